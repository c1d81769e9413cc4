package crc_test

import (
	"math"
	"strings"
	"testing"

	"spence/crc"
)

// maker is a way to come by sums.
type maker struct {
	name string
	make func() *crc.Sums
}

// makers are all ways: new sums, the zero value, and nil.
func makers() []maker {
	return []maker{
		{"new", crc.New},
		{"zero", func() *crc.Sums { return new(crc.Sums) }},
		{"nil", func() *crc.Sums { return nil }},
	}
}

// known is a text, and its sum.
type known struct {
	text string
	sum  uint32
}

func knowns() []known {
	return []known{
		{"", 0},
		{"123456789", 3421780262},
		{"a", 0xe8b7be43},
		{"ab", 0x9e83486d},
		{"abc", 0x352441c2},
		{"\x00", 0xd202ef8d},
		{"\x00\x00", 0x41d912ff},
		{"\x00\x00\x00\x00", 0x2144df1c},
		{strings.Repeat("\x00", 32), 0x190a55ad},
		{"\xff", 0xff000000},
		{"\xff\xff\xff\xff", 0xffffffff},
		{strings.Repeat("\xff", 32), 0xff6cab0b},
		{"The quick brown fox jumps over the lazy dog", 0x414fa339},
	}
}

// P5.1

func TestNewAreSumsEachTime(t *testing.T) {
	a, b := crc.New(), crc.New()
	if a == nil || b == nil {
		t.Fatal("New is nil")
	}
	if a == b {
		t.Error("New told the same sums twice")
	}
	a.Sum("a")
	if b.Made() || crc.New().Made() {
		t.Error("the table of some sums is made by others")
	}
}

func TestSum(t *testing.T) {
	for _, m := range makers() {
		for _, k := range knowns() {
			if n := m.make().Sum(k.text); n != k.sum {
				t.Errorf("%s: Sum(%q) = %#x, not %#x", m.name, k.text, n, k.sum)
			}
		}
	}
}

func TestSumAgain(t *testing.T) {
	for _, m := range makers() {
		s := m.make()
		for range 3 {
			for _, k := range knowns() {
				if n := s.Sum(k.text); n != k.sum {
					t.Errorf("%s: Sum(%q) = %#x, not %#x, of sums in use", m.name, k.text, n, k.sum)
				}
			}
		}
	}
}

func TestMoreIsTheSumOfAllTexts(t *testing.T) {
	for _, m := range makers() {
		for i, l := range [][]string{
			{"123456789"},
			{"1234", "56789"},
			{"1", "2", "3", "4", "5", "6", "7", "8", "9"},
			{"", "123456789"},
			{"123456789", ""},
			{"", "", "12345", "", "", "6789", "", ""},
		} {
			if n := m.make().More(0, l...); n != 3421780262 {
				t.Errorf("%s, %d: More(0, %q) = %d", m.name, i, l, n)
			}
		}
	}
}

func TestMoreGoesOnFromASum(t *testing.T) {
	for _, m := range makers() {
		s := m.make()
		for _, a := range knowns() {
			for _, b := range knowns() {
				want := plainSum(a.text + b.text)
				if n := s.More(a.sum, b.text); n != want {
					t.Errorf("%s: More(sum of %q, %q) = %#x, not %#x", m.name, a.text, b.text, n, want)
				}
				want = plainSum(a.text + b.text + "-" + a.text)
				if n := s.More(a.sum, b.text, "-", a.text); n != want {
					t.Errorf("%s: More(sum of %q, %q, -, ..) = %#x, not %#x", m.name, a.text, b.text, n, want)
				}
			}
		}
	}
}

// anySums are numbers to begin with: edges, single bits, and the sums of texts.
func anySums() []uint32 {
	l := []uint32{0, 1, 2, 254, 255, 256, 0x7fffffff, 0x80000000, 0xfffffffe, math.MaxUint32, 3988292384, 3421780262, 0x01020304}
	for i := range 32 {
		l = append(l, 1<<i, ^uint32(1<<i))
	}
	return l
}

func TestMoreOfNothingIsTheSumItself(t *testing.T) {
	for _, m := range makers() {
		for _, sum := range anySums() {
			for _, l := range [][]string{nil, {}, {""}, {"", "", ""}} {
				if n := m.make().More(sum, l...); n != sum {
					t.Errorf("%s: More(%#x, %q) = %#x", m.name, sum, l, n)
				}
			}
			if n := m.make().More(sum); n != sum {
				t.Errorf("%s: More(%#x) = %#x", m.name, sum, n)
			}
		}
	}
}

func TestMoreOfAnySum(t *testing.T) {
	for _, m := range makers() {
		s := m.make()
		for _, sum := range anySums() {
			for _, k := range knowns() {
				want := ^plainPut(^sum, k.text)
				if n := s.More(sum, k.text); n != want {
					t.Errorf("%s: More(%#x, %q) = %#x, not %#x", m.name, sum, k.text, n, want)
				}
			}
		}
	}
}

func TestMoreOfTheGreatestSum(t *testing.T) {
	// A sum whose bits are all turned back to 0 isn't changed by a byte 0.
	if n := crc.New().More(math.MaxUint32, "\x00\x00\x00"); n != math.MaxUint32 {
		t.Errorf("of zeros: %#x", n)
	}
	if n := crc.New().More(math.MaxUint32, "\x01"); n != ^uint32(0x77073096) {
		t.Errorf("of a 1: %#x", n)
	}
	if n := crc.New().More(math.MaxUint32, "\x80"); n != ^uint32(3988292384) {
		t.Errorf("of a byte's highest bit: %#x", n)
	}
}

func TestMoreTakesAsManyTextsAsOneLikes(t *testing.T) {
	l := make([]string, 5000)
	for i := range l {
		l[i] = strings.Repeat(string([]byte{byte(i), byte(i >> 8)}), i%4)
	}
	want := plainSum(strings.Join(l, ""))
	for _, m := range makers() {
		if n := m.make().More(0, l...); n != want {
			t.Errorf("%s: %#x, not %#x", m.name, n, want)
		}
	}
}

func TestMoreLeavesItsTexts(t *testing.T) {
	memory := []string{"a", "b", "c", "d"}
	l := memory[:2]
	s := crc.New()
	if n := s.More(0, l...); n != plainSum("ab") {
		t.Errorf("what lies behind the list is read: %#x", n)
	}
	if strings.Join(memory, ",") != "a,b,c,d" {
		t.Errorf("the list is changed: %q", memory)
	}
	l[0] = "z"
	if n := s.More(0, "a", "b"); n != plainSum("ab") {
		t.Errorf("the list is kept: %#x", n)
	}
}

func TestLongTexts(t *testing.T) {
	whole := make([]byte, 1<<20+3)
	for i := range whole {
		whole[i] = byte(i*i>>5 + i>>9)
	}
	text := string(whole)
	want := plainSum(text)
	for _, m := range makers() {
		if n := m.make().Sum(text); n != want {
			t.Errorf("%s: Sum = %#x, not %#x", m.name, n, want)
		}
		if n := m.make().More(0, text[:65536], text[65536:]); n != want {
			t.Errorf("%s: More = %#x, not %#x", m.name, n, want)
		}
	}
}

func TestSumsOfRunesAreThoseOfTheirBytes(t *testing.T) {
	s := crc.New()
	for _, text := range []string{"ä", "€uro", "𝄞", "\xc3", "\xe2\x82", "\xf0\x9d\x84", "\xed\xa0\x80", "\xff\xfe"} {
		if n := s.Sum(text); n != plainSum(text) {
			t.Errorf("Sum(%q) = %#x, not %#x", text, n, plainSum(text))
		}
	}
}

// P5.2

func TestMadeOfNewSums(t *testing.T) {
	for _, m := range makers() {
		s := m.make()
		for range 3 {
			if s.Made() {
				t.Errorf("%s: made, and nothing was asked", m.name)
			}
		}
	}
}

func TestMadeBehindEachCall(t *testing.T) {
	for _, m := range makers() {
		for _, c := range []struct {
			name string
			ask  func(*crc.Sums)
		}{
			{"Sum of a text", func(s *crc.Sums) { s.Sum("a") }},
			{"Sum of the empty text", func(s *crc.Sums) { s.Sum("") }},
			{"More of a text", func(s *crc.Sums) { s.More(7, "a") }},
			{"More of the empty text", func(s *crc.Sums) { s.More(7, "") }},
			{"More of many", func(s *crc.Sums) { s.More(7, "", "a", "") }},
			{"More of none", func(s *crc.Sums) { s.More(7) }},
			{"More of none, the sum 0", func(s *crc.Sums) { s.More(0) }},
			{"More of a nil list", func(s *crc.Sums) { s.More(math.MaxUint32, nil...) }},
		} {
			s := m.make()
			if s.Made() {
				t.Errorf("%s, %s: made ahead", m.name, c.name)
			}
			c.ask(s)
			if s.Made() != (s != nil) {
				t.Errorf("%s, %s: Made is %v behind it", m.name, c.name, s.Made())
			}
			c.ask(s)
			if s.Made() != (s != nil) || s.Made() != (s != nil) {
				t.Errorf("%s, %s: Made is %v behind it twice", m.name, c.name, s.Made())
			}
		}
	}
}

func TestMadeOfOneAlone(t *testing.T) {
	a, b, none := crc.New(), new(crc.Sums), (*crc.Sums)(nil)
	none.Sum("a")
	if a.Made() || b.Made() || none.Made() {
		t.Error("nil sums make a table of others")
	}
	a.Sum("a")
	if !a.Made() || b.Made() || none.Made() {
		t.Error("sums make a table of others")
	}
	b.More(1)
	if !a.Made() || !b.Made() || none.Made() {
		t.Error("Made of two that were asked")
	}
}

// P5.3

func TestPartsCutAtEveryPlace(t *testing.T) {
	for _, m := range makers() {
		s := m.make()
		for _, text := range []string{"", "a", "123456789", strings.Repeat("\x00", 20), "\xff\x00\x80\x7f\x01", strings.Repeat("spence", 9)} {
			want := s.Sum(text)
			for i := range len(text) + 1 {
				if n := s.More(s.Sum(text[:i]), text[i:]); n != want {
					t.Errorf("%s: %q, cut at %d: %#x, not %#x", m.name, text, i, n, want)
				}
				for j := i; j <= len(text); j++ {
					if n := s.More(0, text[:i], text[i:j], text[j:]); n != want {
						t.Errorf("%s: %q, cut at %d and %d: %#x, not %#x", m.name, text, i, j, n, want)
					}
				}
			}
		}
	}
}

func TestPartsByteByByte(t *testing.T) {
	text := strings.Repeat("\x00\xff\x10spence\x80", 100)
	s := crc.New()
	sum := s.Sum("")
	for i := range len(text) {
		sum = s.More(sum, text[i:i+1])
		if want := s.Sum(text[:i+1]); sum != want {
			t.Fatalf("at %d: %#x, not %#x", i, sum, want)
		}
	}
}

func TestPartsOfDifferentSums(t *testing.T) {
	for _, a := range makers() {
		for _, b := range makers() {
			if n := b.make().More(a.make().Sum("1234"), "56789"); n != 3421780262 {
				t.Errorf("%s, then %s: %d", a.name, b.name, n)
			}
		}
	}
}

// spoiled is a text in which the byte at a place is another one.
func spoiled(text string, at int, b byte) string {
	return text[:at] + string([]byte{b}) + text[at+1:]
}

func TestOneOtherByteHasAnotherSum(t *testing.T) {
	s := crc.New()
	for _, text := range []string{"a", "123456789", strings.Repeat("\x00", 33), strings.Repeat("\xff", 17), strings.Repeat("spence\x00\x80", 64)} {
		sum := s.Sum(text)
		for _, at := range []int{0, len(text) / 2, len(text) - 1} {
			seen := map[uint32]int{}
			for b := range 256 {
				n := s.Sum(spoiled(text, at, byte(b)))
				if (n == sum) != (byte(b) == text[at]) {
					t.Errorf("%q, byte %d at %d: the sums are %#x and %#x", text, b, at, sum, n)
				}
				if other, ok := seen[n]; ok {
					t.Errorf("%q: bytes %d and %d at %d have the same sum", text, other, b, at)
				}
				seen[n] = b
			}
		}
	}
}

func TestOneOtherBitHasAnotherSum(t *testing.T) {
	s := crc.New()
	text := strings.Repeat("spence\x00\xff", 32)
	sum := s.Sum(text)
	for at := range len(text) {
		for bit := range 8 {
			if n := s.Sum(spoiled(text, at, text[at]^1<<bit)); n == sum {
				t.Errorf("bit %d at %d: the sum stays %#x", bit, at, n)
			}
		}
	}
}

func TestOneOtherByteOfALongText(t *testing.T) {
	s := crc.New()
	text := strings.Repeat("0123456789abcdef", 1<<14)
	sum := s.Sum(text)
	for _, at := range []int{0, 1, len(text) / 2, len(text) - 2, len(text) - 1} {
		for _, by := range []byte{1, 0x80, 0xff} {
			if n := s.Sum(spoiled(text, at, text[at]^by)); n == sum {
				t.Errorf("at %d: the sum stays %#x", at, n)
			}
		}
	}
}

func TestOneOtherByteInAPart(t *testing.T) {
	s := crc.New()
	for _, begin := range anySums() {
		sum := s.More(begin, "ab", "cd")
		if s.More(begin, "Ab", "cd") == sum || s.More(begin, "ab", "ce") == sum {
			t.Errorf("begun with %#x: the sum stays %#x", begin, sum)
		}
	}
}
