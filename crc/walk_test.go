package crc_test

import (
	"hash/crc32"
	"testing"

	"spence/crc"
)

// plainPut puts bytes to a sum as the document's words say it, without a table.
func plainPut(sum uint32, text string) uint32 {
	for _, b := range []byte(text) {
		sum ^= uint32(b)
		for i := 0; i < 8; i++ {
			if sum%2 == 1 {
				sum = sum/2 ^ 3988292384
			} else {
				sum /= 2
			}
		}
	}
	return sum
}

// plainSum is a text's sum as the document's words say it.
func plainSum(text string) uint32 {
	return ^plainPut(0xffffffff, text)
}

// rows are all rows of up to k elements.
func rows[T any](of []T, k int) [][]T {
	all := [][]T{nil}
	for from := 0; k > 0; k-- {
		to := len(all)
		for _, row := range all[from:to] {
			for _, x := range of {
				all = append(all, append(append([]T{}, row...), x))
			}
		}
		from = to
	}
	return all
}

// bytesOf are all bytes there are.
func bytesOf() []byte {
	var l []byte
	for i := range 256 {
		l = append(l, byte(i))
	}
	return l
}

func TestAllShortTexts(t *testing.T) {
	s := crc.New()
	for _, b := range rows(bytesOf(), 2) {
		text := string(b)
		if n, want := s.Sum(text), plainSum(text); n != want || n != crc32.ChecksumIEEE(b) {
			t.Fatalf("Sum(%q) = %#x, not %#x", text, n, want)
		}
	}
}

func TestTextsOfOneByteHaveSumsOfTheirOwn(t *testing.T) {
	for _, m := range makers() {
		seen := map[uint32]byte{}
		for _, b := range bytesOf() {
			n := m.make().Sum(string([]byte{b}))
			if n != plainSum(string([]byte{b})) {
				t.Errorf("%s: Sum of the byte %d = %#x", m.name, b, n)
			}
			if other, ok := seen[n]; ok {
				t.Errorf("%s: the bytes %d and %d have the sum %#x", m.name, other, b, n)
			}
			seen[n] = b
		}
	}
}

func TestZerosOfEachLength(t *testing.T) {
	s := crc.New()
	zeros := make([]byte, 3000)
	for i := range zeros {
		text := string(zeros[:i])
		if n, want := s.Sum(text), plainSum(text); n != want {
			t.Fatalf("Sum of %d zeros = %#x, not %#x", i, n, want)
		}
	}
}

// step is a call of sums, with what a plain one answers of it.
type step struct {
	name string
	made bool // whether it makes the table
	ask  func(*crc.Sums) uint32
	want uint32
}

func steps() []step {
	return []step{
		{"New", false, func(*crc.Sums) uint32 { crc.New(); return 0 }, 0},
		{"Made", false, func(s *crc.Sums) uint32 { s.Made(); return 0 }, 0},
		{"Sum of nothing", true, func(s *crc.Sums) uint32 { return s.Sum("") }, 0},
		{"Sum", true, func(s *crc.Sums) uint32 { return s.Sum("\x00k\xff") }, plainSum("\x00k\xff")},
		{"More of none", true, func(s *crc.Sums) uint32 { return s.More(0xffffffff) }, 0xffffffff},
		{"More of nothing", true, func(s *crc.Sums) uint32 { return s.More(9, "", "") }, 9},
		{"More", true, func(s *crc.Sums) uint32 { return s.More(plainSum("k"), "", "v", "\x80w") }, plainSum("kv\x80w")},
	}
}

// All rows of four calls: each answer hangs on its own call alone, and Made on whether one of those ahead makes the table.
func TestAllRowsOfCalls(t *testing.T) {
	for _, m := range makers() {
		for _, row := range rows(steps(), 4) {
			s := m.make()
			made := false
			for i, c := range row {
				if n := c.ask(s); n != c.want {
					t.Fatalf("%s, call %d, %s: %#x, not %#x", m.name, i, c.name, n, c.want)
				}
				made = made || c.made && s != nil
				if s.Made() != made {
					t.Fatalf("%s, call %d, %s: Made is %v", m.name, i, c.name, s.Made())
				}
			}
		}
	}
}
