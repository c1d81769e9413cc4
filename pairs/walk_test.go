package pairs_test

import (
	"maps"
	"math/big"
	"slices"
	"strings"
	"testing"

	"spence/api"
	"spence/cursor"
	"spence/pairs"
	"spence/pen"
)

// rows are all rows of up to k elements.
func rows[T any](of []T, k int) [][]T {
	all := [][]T{nil}
	for from := 0; k > 0; k-- {
		to := len(all)
		for _, row := range all[from:to] {
			for _, x := range of {
				all = append(all, append(append([]T{}, row...), x))
			}
		}
		from = to
	}
	return all
}

// readNumber reads a number as chapter 3's words say it, with exact numbers: the number, the place, and the error.
func readNumber(s string, at int) (*big.Int, int, api.Errno) {
	sum := new(big.Int)
	for i := 0; ; i++ {
		if at+i >= len(s) {
			return nil, len(s), api.ErrShort
		}
		b := s[at+i]
		if i == 9 && b > 1 {
			return nil, at + i, api.ErrOver
		}
		if b == 0 && i != 0 {
			return nil, at + i, api.ErrMinimal
		}
		sum.Add(sum, new(big.Int).Lsh(big.NewInt(int64(b%128)), uint(7*i)))
		if b < 128 {
			return sum, at + i + 1, api.OK
		}
	}
}

// readLimited reads a number that has a limit: the number, the place, and the error.
func readLimited(s string, at int, limit int64) (int, int, api.Errno) {
	n, at, e := readNumber(s, at)
	if e != api.OK {
		return 0, at, e
	}
	if n.Cmp(big.NewInt(limit)) > 0 {
		return 0, at, api.ErrLimit
	}
	return int(n.Int64()), at, api.OK
}

// readBlob reads a text with its length ahead: the text, the place, and the error.
func readBlob(s string, at int, limit int64) (string, int, api.Errno) {
	n, at, e := readLimited(s, at, limit)
	if e != api.OK {
		return "", at, e
	}
	if n > len(s)-at {
		return "", at, api.ErrShort
	}
	return s[at : at+n], at + n, api.OK
}

// readPair reads a pair behind a name (the empty one: there is none ahead, and all are above it): the pair, the place, and the error.
func readPair(s string, at int, ahead string) (api.Pair, int, api.Errno) {
	name, at, e := readBlob(s, at, 32)
	if e == api.OK && name == "" {
		e = api.ErrEmpty
	}
	if e == api.OK && strings.Compare(name, ahead) <= 0 {
		e = api.ErrOrder
	}
	if e != api.OK {
		return api.Pair{}, at, e
	}
	value, at, e := readBlob(s, at, 32768)
	if e != api.OK {
		return api.Pair{}, at, e
	}
	return api.Pair{Name: name, Value: value}, at, api.OK
}

// readPairs reads pairs as the chapter's words say it: the pairs, the place, and the error.
func readPairs(s string, at int) ([]api.Pair, int, api.Errno) {
	n, at, e := readLimited(s, at, 8)
	if e != api.OK {
		return nil, at, e
	}
	var l []api.Pair
	ahead := ""
	for range n {
		var x api.Pair
		x, at, e = readPair(s, at, ahead)
		if e != api.OK {
			return nil, at, e
		}
		l = append(l, x)
		ahead = x.Name
	}
	return l, at, api.OK
}

// plainNumber are a number's bytes.
func plainNumber(n int) string {
	if n < 128 {
		return string([]byte{byte(n)})
	}
	return string([]byte{byte(128 + n%128)}) + plainNumber(n/128)
}

// checked is what the chapter's words say of a list.
func checked(l []api.Pair) api.Errno {
	if len(l) > 8 {
		return api.ErrLimit
	}
	ahead := ""
	for _, x := range l {
		switch {
		case len(x.Name) > 32:
			return api.ErrLimit
		case x.Name == "":
			return api.ErrEmpty
		case strings.Compare(x.Name, ahead) <= 0:
			return api.ErrOrder
		case len(x.Value) > 32768:
			return api.ErrLimit
		}
		ahead = x.Name
	}
	return api.OK
}

// parts are the texts that are written of pairs, one by one.
func parts(l []api.Pair) []string {
	all := []string{plainNumber(len(l))}
	for _, x := range l {
		all = append(all, plainNumber(len(x.Name)), x.Name, plainNumber(len(x.Value)), x.Value)
	}
	return all
}

// plainPut writes pairs behind a text, up to a pen's room: what is written, and the error.
func plainPut(s string, room int, l []api.Pair) (string, api.Errno) {
	if e := checked(l); e != api.OK {
		return s, e
	}
	for _, part := range parts(l) {
		if len(s)+len(part) > room {
			return s, api.ErrLimit
		}
		s += part
	}
	return s, api.OK
}

// plainWith gathers pairs by their names, and tells them sorted.
func plainWith(l, more []api.Pair) ([]api.Pair, api.Errno) {
	if checked(l) != api.OK {
		return nil, api.ErrArg
	}
	values := map[string]string{}
	for _, x := range l {
		values[x.Name] = x.Value
	}
	for _, x := range more {
		if checked([]api.Pair{x}) != api.OK {
			return nil, api.ErrArg
		}
		values[x.Name] = x.Value
	}
	if len(values) > 8 {
		return nil, api.ErrLimit
	}
	var all []api.Pair
	for _, name := range slices.Sorted(maps.Keys(values)) {
		all = append(all, api.Pair{Name: name, Value: values[name]})
	}
	return all, api.OK
}

// plainSame looks at all places, from the right.
func plainSame(a, b []api.Pair) bool {
	if len(a) != len(b) {
		return false
	}
	for i := len(a) - 1; i >= 0; i-- {
		if strings.Compare(a[i].Name, b[i].Name) != 0 || strings.Compare(a[i].Value, b[i].Value) != 0 {
			return false
		}
	}
	return true
}

// plainValue looks at all places, from the right: the last one that is found is the first.
func plainValue(l []api.Pair, name string) (string, bool) {
	value, there := "", false
	for i := len(l) - 1; i >= 0; i-- {
		if strings.Compare(l[i].Name, name) == 0 {
			value, there = l[i].Value, true
		}
	}
	return value, there
}

// wantPlain holds Take of a text against the plain reading, and what is read against what is written of it.
func wantPlain(t *testing.T, s string) {
	t.Helper()
	want, at, e := readPairs(s, 0)
	wantTaken(t, s, 0, want, at, e)
	if e != api.OK {
		return
	}
	wantChecked(t, want, api.OK)
	p := pen.New(at)
	pairs.Put(p, want...)
	wantPen(t, p, s[:at], at, api.OK)
}

// wantPut holds Put of a list against the plain writing.
func wantPut(t *testing.T, room int, l []api.Pair) {
	t.Helper()
	want, e := plainPut("z", room, l)
	p := pen.New(room)
	p.Text("z")
	pairs.Put(p, l...)
	text := want
	if e != api.OK {
		text = ""
	}
	wantPen(t, p, text, len(want), e)
}

// wantWritten holds Check and Put of a list against the plain ones, and what is written against what is read of it.
func wantWritten(t *testing.T, l []api.Pair) {
	t.Helper()
	wantChecked(t, l, checked(l))
	wantPut(t, 1<<20, l)
	s := strings.Join(parts(l), "")
	if checked(l) == api.OK {
		wantTaken(t, s, 0, l, len(s), api.OK)
	} else if read := pairs.Take(cursor.New(s)); len(read) != 0 {
		t.Fatalf("%s, which isn't right, is read as %s", brief(l), brief(read))
	}
}

// wantPlainWith holds With of lists against the plain gathering.
func wantPlainWith(t *testing.T, l, more []api.Pair) {
	t.Helper()
	want, e := plainWith(l, more)
	wantWith(t, l, more, want, e)
	if e == api.OK {
		wantChecked(t, want, api.OK)
	}
}

// wantPlainValue holds Value against the plain looking.
func wantPlainValue(t *testing.T, l []api.Pair, name string) {
	t.Helper()
	want, there := plainValue(l, name)
	wantValue(t, l, name, want, there)
}

// all are all pairs of some names and values.
func all(names, values []string) []api.Pair {
	var l []api.Pair
	for _, name := range names {
		for _, value := range values {
			l = append(l, api.Pair{Name: name, Value: value})
		}
	}
	return l
}

// TestAllShortTexts is of all texts of up to two bytes, alone and behind some beginnings, and of all of up to seven edge bytes.
func TestAllShortTexts(t *testing.T) {
	var bytes []byte
	for i := range 256 {
		bytes = append(bytes, byte(i))
	}
	for _, b := range rows(bytes, 2) {
		for _, ahead := range []string{"", "\x01", "\x01\x01", "\x01\x01a", "\x01\x01a" + great[:1], "\x01\x01a" + great[:2], "\x02\x01a\x00", "\x02\x01b\x00\x01", "\x02\x01b\x00\x01c", "\x01\x01a" + nines[1:], "\x01" + nines[1:], nines[1:]} {
			wantPlain(t, ahead+string(b))
		}
	}
	for _, b := range rows([]byte{0, 1, 2, 3, 8, 128, 255}, 7) {
		wantPlain(t, string(b))
	}
}

// TestAllRowsOfPieces is of all rows of up to five pieces of pairs behind each of some counts.
func TestAllRowsOfPieces(t *testing.T) {
	pieces := []string{"\x01a", "\x01b", "\x02ab", "\x00", "\x01", "\x80\x01", "\x81\x00", tooGreat, nines + "\x02", "\x20" + long(32), "\x21"}
	for _, row := range rows(pieces, 5) {
		s := strings.Join(row, "")
		for _, count := range []string{"\x00", "\x01", "\x02", "\x03"} {
			wantPlain(t, count+s)
		}
	}
}

// TestAllRowsOfPairs is of all lists of up to three pairs, right or not; two that aren't the same have not the same bytes.
func TestAllRowsOfPairs(t *testing.T) {
	seen := map[string]bool{}
	for _, l := range rows(all([]string{"", "\x01", "a", "a\x01", "b", "\xff", long(32), long(33)}, []string{"", "\x01", "22"}), 3) {
		wantWritten(t, l)
		if checked(l) != api.OK {
			continue
		}
		p := pen.New(1000)
		pairs.Put(p, l...)
		s, _ := p.End()
		if seen[s] {
			t.Fatalf("%.60q are the bytes of two lists", s)
		}
		seen[s] = true
	}
	for _, l := range rows(all([]string{"a", "b", "", long(33)}, []string{"1", greatValue, tooGreatValue}), 2) {
		wantWritten(t, l)
	}
}

// TestAllRowsOfPairsAtEachLimit puts all rows of up to three pairs, right or not, at pens of all rooms.
func TestAllRowsOfPairsAtEachLimit(t *testing.T) {
	for _, l := range rows([]api.Pair{{}, {Name: "a"}, {Name: "a", Value: "123"}, {Name: "bcd", Value: "1"}, {Name: "c", Value: "12"}, {Name: "e", Value: tooGreatValue}, {Name: long(32)}, {Name: long(33)}}, 3) {
		for room := range 60 {
			wantPut(t, room+1, l)
		}
	}
}

// smallRows are all lists of up to three small pairs, right or not.
func smallRows() [][]api.Pair {
	return rows(all([]string{"", "a", "ab", "b"}, []string{"", "1"}), 3)
}

// TestAllSmallOnesWithOthers has each list with each other one.
func TestAllSmallOnesWithOthers(t *testing.T) {
	lists := smallRows()
	for _, l := range lists {
		for _, more := range lists {
			wantPlainWith(t, l, more)
		}
	}
}

// TestAllSmallOnesAreTheSameOrNot holds each list against each other one, and looks for names in it.
func TestAllSmallOnesAreTheSameOrNot(t *testing.T) {
	lists := smallRows()
	for _, a := range lists {
		for _, b := range lists {
			wantSame(t, a, b, plainSame(a, b))
		}
		for _, name := range []string{"", "a", "ab", "b", "c", "aa"} {
			wantPlainValue(t, a, name)
		}
	}
}

// drawn are texts and lists that follow a rule.
type drawn struct{ x uint32 }

func (d *drawn) next() int {
	d.x = d.x*1664525 + 1013904223
	return int(d.x >> 20)
}

func (d *drawn) text(n int) string {
	b := make([]byte, n)
	for i := range b {
		b[i] = byte(d.next())
	}
	return string(b)
}

// list is a list of up to 9 pairs with any names: most often sorted, sometimes with a pair that isn't right.
func (d *drawn) list() []api.Pair {
	l := make([]api.Pair, d.next()%10)
	for i := range l {
		l[i] = api.Pair{Name: d.text(1 + d.next()%32), Value: d.text([]int{0, 1, 5, 127, 128, 200}[d.next()%6])}
	}
	if d.next()%4 > 0 {
		slices.SortFunc(l, func(a, b api.Pair) int { return strings.Compare(a.Name, b.Name) })
	}
	if len(l) > 0 && d.next()%4 == 0 {
		l[d.next()%len(l)] = api.Pair{Name: d.text(d.next() % 35), Value: d.text(d.next() % 3)}
	}
	return l
}

// small is a pair of one of 12 names.
func (d *drawn) small() api.Pair {
	at := d.next() % 12
	return api.Pair{Name: "abcdefghijkl"[at : at+1], Value: d.text(d.next() % 2)}
}

// few is a list of up to n small pairs.
func (d *drawn) few(n int) []api.Pair {
	l := make([]api.Pair, d.next()%(n+1))
	for i := range l {
		l[i] = d.small()
	}
	return l
}

// TestAnyTextsAndLists is of any texts, of any lists, and of pairs' bytes, spoiled at some places.
func TestAnyTextsAndLists(t *testing.T) {
	d := &drawn{1}
	for range 20000 {
		l := d.list()
		wantWritten(t, l)
		wantPut(t, 1+d.next()%1024, l)
		wantPlain(t, d.text(d.next()%40))
		wantPlain(t, string([]byte{byte(1 + d.next()%4)})+d.text(d.next()%200))
		s := strings.Join(parts(l), "") // also of what isn't right
		wantPlain(t, s)
		wantPlain(t, s+d.text(d.next()%3))
		wantPlain(t, s[:d.next()%(len(s)+1)])
		at := d.next() % len(s)
		wantPlain(t, s[:at]+d.text(1)+s[at+1:])
		wantPlain(t, s[:at]+d.text(1)+s[at:])
		wantPlain(t, s[:at]+s[at+1:])
	}
}

// TestAnyListsWithOthers is of lists with others, of values in them, and of lists that are nearly the same.
func TestAnyListsWithOthers(t *testing.T) {
	d := &drawn{2}
	for range 20000 {
		base, _ := plainWith(nil, d.few(11)) // none, where there are too many
		wantPlainWith(t, base, d.few(11))
		wantPlainWith(t, base, d.list())
		wantPlainWith(t, d.few(9), d.few(3))
		wantPlainWith(t, d.list(), d.list())
		l := d.few(5)
		for _, name := range []string{"a", "b", "f", "l", "m", ""} {
			wantPlainValue(t, l, name)
		}
		m := slices.Clone(l)
		if len(m) > 0 {
			m[d.next()%len(m)] = d.small()
		}
		wantSame(t, l, m, plainSame(l, m))
	}
}
