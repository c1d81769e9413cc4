package digest_test

import (
	"strings"
	"testing"

	"spence/api"
	"spence/digest"
)

// P19.3

// another is a text whose byte at a place is another one.
func another(s string, at int, b byte) string {
	return s[:at] + string([]byte{b}) + s[at+1:]
}

// wantEachOtherByte asks that texts of which one has another byte at a place have other marks, each its own.
func wantEachOtherByte(t *testing.T, l []string, text, at int) {
	t.Helper()
	seen := map[string]int{}
	for i := range 256 {
		changed := append([]string{}, l...)
		changed[text] = another(l[text], at, byte(i))
		s := digest.Of(changed...)
		if other, there := seen[s]; there {
			t.Errorf("text %d of %d, place %d: the bytes %d and %d have the same mark", text, len(l), at, other, i)
		}
		seen[s] = i
		if same := s == digest.Of(l...); same != (byte(i) == l[text][at]) {
			t.Errorf("text %d of %d, place %d: with the byte %d the mark is the same: %v", text, len(l), at, i, same)
		}
	}
}

func TestEachOtherByteOfShortTexts(t *testing.T) {
	for _, s := range []string{"a", "\x00", "\xff", "ab", "abc", "\x00\x00\x00", "\xff\x80\x7f\x00"} {
		for at := range s {
			wantEachOtherByte(t, []string{s}, 0, at)
		}
	}
}

func TestEachOtherByteOfOneOfSeveralTexts(t *testing.T) {
	l := []string{"k", "", "abc", "\x00\xff", "", "v"}
	for text, s := range l {
		for at := range len(s) {
			wantEachOtherByte(t, l, text, at)
		}
	}
}

func TestEachOtherByteOfLongTexts(t *testing.T) {
	for _, n := range []int{127, 128, 129, 300} {
		d := drawn(n)
		s := d.text(n)
		for _, at := range []int{0, 1, 31, 32, n / 2, n - 2, n - 1} {
			wantEachOtherByte(t, []string{s}, 0, at)
			wantEachOtherByte(t, []string{"k", s, "v"}, 1, at)
		}
	}
	wantEachOtherByte(t, []string{long(16384)}, 0, 0)
	wantEachOtherByte(t, []string{long(16384)}, 0, 9000)
	wantEachOtherByte(t, []string{long(16384)}, 0, 16383)
}

// Each bit at each place of a text.
func TestEachBitOfALongText(t *testing.T) {
	d := drawn(7)
	l := []string{"k", d.text(1000), "v"}
	seen := map[string]bool{digest.Of(l...): true}
	for at := range l[1] {
		for bit := range 8 {
			s := digest.Of(l[0], another(l[1], at, l[1][at]^1<<bit), l[2])
			if seen[s] {
				t.Errorf("place %d, bit %d: a mark that was there", at, bit)
			}
			seen[s] = true
		}
	}
}

// What tells two texts apart is in each of the four numbers.
func TestEachNumberTellsTheByte(t *testing.T) {
	d := drawn(9)
	for range 300 {
		s := d.text(1 + d.below(200))
		at := d.below(len(s))
		a, b := digest.Of(s, "v"), digest.Of(another(s, at, s[at]^byte(1+d.below(255))), "v")
		for i := range 4 {
			if a[8*i:8*i+8] == b[8*i:8*i+8] {
				t.Errorf("%q, place %d: the number %d is the same", s, at, i)
			}
		}
	}
}

// Walks

// pieces are short texts of which rows are made.
func pieces() []string {
	return []string{"", "a", "b", "ab", "\x00", "\x01", "\x01a", "\xff"}
}

func TestAllRowsOfPieces(t *testing.T) {
	all := rows(pieces(), 4)
	for _, row := range all {
		if s, want := digest.Of(row...), plainMark(row...); s != want {
			t.Fatalf("Of(%q) = %x, not %x", row, s, want)
		}
	}
	wantUnlike(t, all)
}

func TestAllTextsOfUpToTwoBytes(t *testing.T) {
	all := [][]string{{""}}
	for i := range 256 {
		all = append(all, []string{string([]byte{byte(i)})})
		for j := range 256 {
			all = append(all, []string{string([]byte{byte(i), byte(j)})})
		}
	}
	for _, row := range all {
		if s, want := digest.Of(row...), plainMark(row...); s != want {
			t.Fatalf("Of(%q) = %x, not %x", row, s, want)
		}
	}
	wantUnlike(t, all)
}

func TestTextsOfEachLengthUpTo300(t *testing.T) {
	var all [][]string
	for n := range 301 {
		s := strings.Repeat("\x00", n)
		wantMark(t, "zeros", digest.Of(s), plainMark(s))
		all = append(all, []string{s}, []string{s, ""}, []string{"", s})
	}
	wantUnlike(t, all[3:]) // of the empty text two of the three are the same
}

// step is a call of a maker, and the texts that it adds.
type step struct {
	name  string
	do    func(*digest.Maker)
	added []string
}

func steps() []step {
	return []step{
		{"Mark", func(m *digest.Maker) { m.Mark() }, nil},
		{"Add of none", func(m *digest.Maker) { m.Add() }, nil},
		{"Add of an empty one", func(m *digest.Maker) { m.Add("") }, []string{""}},
		{"Add of one", func(m *digest.Maker) { m.Add("a") }, []string{"a"}},
		{"Add of two", func(m *digest.Maker) { m.Add("bc", "\x00") }, []string{"bc", "\x00"}},
		{"Add of three", func(m *digest.Maker) { m.Add("", "a", "") }, []string{"", "a", ""}},
		{"another one's Add", func(*digest.Maker) { digest.New().Add("d") }, nil},
		{"Of", func(*digest.Maker) { digest.Of("e", "") }, nil},
	}
}

// All rows of four calls: the mark is that of the texts that were added, in their row.
func TestAllRowsOfCalls(t *testing.T) {
	for _, row := range rows(steps(), 4) {
		var names, had []string
		for _, c := range row {
			names, had = append(names, c.name), append(had, c.added...)
		}
		want := plainMark(had...)
		for _, m := range makers() {
			x := m.make()
			for _, c := range row {
				c.do(x)
			}
			if s := x.Mark(); s != want || x.Mark() != want || digest.Of(had...) != want {
				t.Fatalf("%s, %q: %x, not %x", m.name, names, s, want)
			}
		}
		var none *digest.Maker
		for _, c := range row {
			c.do(none)
		}
		if none.Mark() != "" {
			t.Fatalf("nil, %q: a mark", names)
		}
	}
}

func TestDrawnTextsInDrawnCalls(t *testing.T) {
	d := drawn(3)
	for range 500 {
		x := digest.New()
		var had []string
		for range d.below(6) {
			var l []string
			for range d.below(4) {
				l = append(l, d.text(d.below(200)))
			}
			x.Add(l...)
			had = append(had, l...)
			if d.below(2) == 0 {
				x.Mark()
			}
		}
		want := plainMark(had...)
		wantMark(t, "a maker", x.Mark(), want)
		wantMark(t, "Of", digest.Of(had...), want)
	}
}

// Of any text Parse tells ErrForm and nothing, or a mark whose text it is.
func TestParseOfDrawnTexts(t *testing.T) {
	const some = "0123456789abcdef0123456789abcdefAg/: "
	d := drawn(5)
	for range 20000 {
		l := make([]byte, 63+d.below(3))
		for i := range l {
			l[i] = some[d.below(32)]
		}
		if d.below(2) == 0 {
			l[d.below(len(l))] = some[d.below(len(some))]
		}
		s := string(l)
		mark, e := digest.Parse(s)
		right := len(s) == 64 && strings.Trim(s, "0123456789abcdef") == ""
		if right != (e == api.OK) || right && digest.Text(mark) != s || !right && (mark != "" || e != api.ErrForm) {
			t.Fatalf("Parse(%q) = %x, %v", s, mark, e)
		}
	}
}
