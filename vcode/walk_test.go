package vcode_test

import (
	"math/big"
	"slices"
	"strings"
	"testing"

	"spence/api"
	"spence/cursor"
	"spence/pen"
	"spence/vcode"
	"spence/vector"
)

// rows are all rows of up to k elements.
func rows[T any](of []T, k int) [][]T {
	all := [][]T{nil}
	for from := 0; k > 0; k-- {
		to := len(all)
		for _, row := range all[from:to] {
			for _, x := range of {
				all = append(all, append(append([]T{}, row...), x))
			}
		}
		from = to
	}
	return all
}

// readNumber reads a number as chapter 3's words say it, with exact numbers: the number, the place, and the error.
func readNumber(s string, at int) (*big.Int, int, api.Errno) {
	sum := new(big.Int)
	for i := 0; ; i++ {
		if at+i >= len(s) {
			return nil, len(s), api.ErrShort
		}
		b := s[at+i]
		if i == 9 && b > 1 {
			return nil, at + i, api.ErrOver
		}
		if b == 0 && i != 0 {
			return nil, at + i, api.ErrMinimal
		}
		sum.Add(sum, new(big.Int).Lsh(big.NewInt(int64(b%128)), uint(7*i)))
		if b < 128 {
			return sum, at + i + 1, api.OK
		}
	}
}

// readLimited reads a number that has a limit: the number, the place, and the error.
func readLimited(s string, at int, limit int64) (int, int, api.Errno) {
	n, at, e := readNumber(s, at)
	if e != api.OK {
		return 0, at, e
	}
	if n.Cmp(big.NewInt(limit)) > 0 {
		return 0, at, api.ErrLimit
	}
	return int(n.Int64()), at, api.OK
}

// readEntry reads an entry behind an actor (the empty one: there is none ahead, and all are above it): the entry, the place, and the error.
func readEntry(s string, at int, ahead string) (api.Entry, int, api.Errno) {
	size, at, e := readLimited(s, at, 32)
	if e != api.OK {
		return api.Entry{}, at, e
	}
	if at+size > len(s) {
		return api.Entry{}, at, api.ErrShort
	}
	actor := s[at : at+size]
	at += size
	if size == 0 {
		return api.Entry{}, at, api.ErrEmpty
	}
	if strings.Compare(actor, ahead) <= 0 {
		return api.Entry{}, at, api.ErrOrder
	}
	n, at, e := readNumber(s, at)
	if e == api.OK && n.Sign() == 0 {
		e = api.ErrZero
	}
	if e != api.OK {
		return api.Entry{}, at, e
	}
	return api.Entry{Actor: actor, Count: n.Uint64()}, at, api.OK
}

// readVector reads a vector as the chapter's words say it: the vector, the place, and the error.
func readVector(s string, at int) ([]api.Entry, int, api.Errno) {
	n, at, e := readLimited(s, at, 64)
	if e != api.OK {
		return nil, at, e
	}
	var v []api.Entry
	ahead := ""
	for range n {
		var x api.Entry
		x, at, e = readEntry(s, at, ahead)
		if e != api.OK {
			return nil, at, e
		}
		v = append(v, x)
		ahead = x.Actor
	}
	return v, at, api.OK
}

// plainNumber are a number's bytes.
func plainNumber(n uint64) string {
	if n < 128 {
		return string([]byte{byte(n)})
	}
	return string([]byte{byte(128 + n%128)}) + plainNumber(n/128)
}

// checked is what chapter 10's words say of a list.
func checked(v []api.Entry) api.Errno {
	if len(v) > 64 {
		return api.ErrLimit
	}
	ahead := ""
	for _, x := range v {
		switch {
		case len(x.Actor) > 32:
			return api.ErrLimit
		case x.Actor == "":
			return api.ErrEmpty
		case strings.Compare(x.Actor, ahead) <= 0:
			return api.ErrOrder
		case x.Count == 0:
			return api.ErrZero
		}
		ahead = x.Actor
	}
	return api.OK
}

// parts are the texts that are written of a vector, one by one.
func parts(v []api.Entry) []string {
	l := []string{plainNumber(uint64(len(v)))}
	for _, x := range v {
		l = append(l, plainNumber(uint64(len(x.Actor))), x.Actor, plainNumber(x.Count))
	}
	return l
}

// plainPut writes vectors behind a text, up to a pen's room: what is written, and the error.
func plainPut(s string, room int, l [][]api.Entry) (string, api.Errno) {
	for _, v := range l {
		if e := checked(v); e != api.OK {
			return s, e
		}
		for _, part := range parts(v) {
			if len(s)+len(part) > room {
				return s, api.ErrLimit
			}
			s += part
		}
	}
	return s, api.OK
}

// wantPlain holds Take and Decode of a text against the plain reading, and what is read against what is written of it.
func wantPlain(t *testing.T, s string) {
	t.Helper()
	want, at, e := readVector(s, 0)
	c := cursor.New(s)
	if v := vcode.Take(c); !slices.Equal(v, want) || c.At() != at || c.Err() != e {
		t.Fatalf("Take of %.60q: %#v at %d, error %d; not %#v at %d, error %d", s, v, c.At(), c.Err(), want, at, e)
	}
	if e == api.OK {
		wantEncoded(t, want, s[:at], api.OK)
	}
	if e == api.OK && at < len(s) {
		want, e = nil, api.ErrTrail
	}
	wantDecoded(t, s, want, e)
	if e == api.OK && vector.Check(want) != api.OK {
		t.Fatalf("%.60q is read as %#v, which isn't right", s, want)
	}
}

// wantWritten holds Encode of a list against the plain writing.
func wantWritten(t *testing.T, v []api.Entry) {
	t.Helper()
	want, e := plainPut("", 1<<20, [][]api.Entry{v})
	if e != api.OK {
		wantEncoded(t, v, "", e)
		return
	}
	wantEncoded(t, v, want, api.OK)
	wantDecoded(t, want, v, api.OK)
}

// wantPut holds Put of lists against the plain writing.
func wantPut(t *testing.T, room int, l ...[]api.Entry) {
	t.Helper()
	want, e := plainPut("z", room, l)
	p := pen.New(room)
	p.Text("z")
	vcode.Put(p, l...)
	if p.Err() != e || p.Len() != len(want) {
		t.Fatalf("Put of %#v, room %d: %d bytes, error %d; not %.60q, error %d", l, room, p.Len(), p.Err(), want, e)
	}
	if s, _ := p.End(); e == api.OK && s != want {
		t.Fatalf("Put of %#v, room %d: %.60q, not %.60q", l, room, s, want)
	}
}

// entries are all entries of some actors and counts.
func entries(actors []string, counts []uint64) []api.Entry {
	var l []api.Entry
	for _, s := range actors {
		for _, n := range counts {
			l = append(l, api.Entry{Actor: s, Count: n})
		}
	}
	return l
}

// TestAllShortTexts is of all texts of up to two bytes, alone and behind some beginnings, and of all of up to seven edge bytes.
func TestAllShortTexts(t *testing.T) {
	var all []byte
	for i := range 256 {
		all = append(all, byte(i))
	}
	for _, b := range rows(all, 2) {
		for _, ahead := range []string{"", "\x01", "\x01\x01", "\x01\x01a", "\x02\x01a\x01", "\x02\x01a\x01\x01", "\x02\x01a\x01\x01b", "\x01\x01a" + nines[1:], "\x01" + nines[1:], nines[1:]} {
			wantPlain(t, ahead+string(b))
		}
	}
	for _, b := range rows([]byte{0, 1, 2, 3, 64, 128, 255}, 7) {
		wantPlain(t, string(b))
	}
}

// TestAllRowsOfPieces is of all rows of up to five pieces of vectors behind each of some counts.
func TestAllRowsOfPieces(t *testing.T) {
	pieces := []string{"\x01a", "\x01b", "\x02ab", "\x00", "\x01", "\x80\x01", "\x81\x00", mostBytes, nines + "\x02", "\x20" + long(32), "\x21"}
	for _, row := range rows(pieces, 5) {
		s := strings.Join(row, "")
		for _, count := range []string{"\x00", "\x01", "\x02", "\x03"} {
			wantPlain(t, count+s)
		}
	}
}

// TestAllRowsOfEntries is of all lists of up to three entries, right or not; two that aren't the same have not the same bytes.
func TestAllRowsOfEntries(t *testing.T) {
	seen := map[string]bool{}
	for _, v := range rows(entries([]string{"", "\x01", "a", "a\x01", "b", "\xff", long(32), long(33)}, []uint64{0, 1, 2, 127, 128, most}), 3) {
		wantWritten(t, v)
		if s, e := vcode.Encode(v); e == api.OK {
			if seen[s] {
				t.Fatalf("%.60q are the bytes of two vectors", s)
			}
			seen[s] = true
		}
	}
}

// TestAllRowsOfVectors puts all rows of up to three lists, right or not, at pens of all rooms.
func TestAllRowsOfVectors(t *testing.T) {
	lists := [][]api.Entry{nil, vec("a1"), vec("b300"), vec("a1 b2"), {{Actor: "ab", Count: most}}, vec("a0"), vec("b1 a1"), of(""), of(long(33)), many(65)}
	for _, l := range rows(lists, 3) {
		for room := range 52 {
			wantPut(t, room+1, l...)
		}
	}
}

// TestAnyTextsAndLists is of texts and lists that follow a rule: vectors' bytes, spoiled at some places, and rows of any entries.
func TestAnyTextsAndLists(t *testing.T) {
	x := uint32(1)
	next := func() int {
		x = x*1664525 + 1013904223
		return int(x >> 20)
	}
	text := func(n int) string {
		b := make([]byte, n)
		for i := range b {
			b[i] = byte(next())
		}
		return string(b)
	}
	list := func() []api.Entry {
		l := make([]api.Entry, next()%(1+next()%67))
		for i := range l {
			l[i] = api.Entry{Actor: text(1 + next()%33), Count: []uint64{1, 127, 128, most, 1 << 63, uint64(next()), uint64(next()) << 30, 1}[next()%8]}
		}
		if next()%4 > 0 {
			slices.SortFunc(l, func(a, b api.Entry) int { return strings.Compare(a.Actor, b.Actor) })
		}
		if len(l) > 0 && next()%4 == 0 {
			l[next()%len(l)] = api.Entry{Actor: text(next() % 34), Count: uint64(next() % 2)}
		}
		return l
	}
	for range 20000 {
		a, b := list(), list()
		wantWritten(t, a)
		wantPut(t, 1+next()%4096, a, b, nil, a)
		wantPlain(t, text(next()%40))
		wantPlain(t, string([]byte{byte(1 + next()%4)})+text(next()%200))
		s := strings.Join(parts(a), "") // also of what isn't right
		wantPlain(t, s)
		wantPlain(t, s+text(next()%3))
		wantPlain(t, s[:next()%(len(s)+1)])
		at := next() % len(s)
		wantPlain(t, s[:at]+text(1)+s[at+1:])
		wantPlain(t, s[:at]+text(1)+s[at:])
		wantPlain(t, s[:at]+s[at+1:])
	}
}
