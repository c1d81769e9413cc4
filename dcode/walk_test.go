package dcode_test

import (
	"slices"
	"strings"
	"testing"

	"spence/api"
	"spence/cursor"
	"spence/dcode"
	"spence/dotted"
	"spence/pen"
)

// rows are all rows of up to k elements.
func rows[T any](of []T, k int) [][]T {
	all := [][]T{nil}
	for from := 0; k > 0; k-- {
		to := len(all)
		for _, row := range all[from:to] {
			for _, x := range of {
				all = append(all, append(append([]T{}, row...), x))
			}
		}
		from = to
	}
	return all
}

// reader reads a text as the chapters' words say it; behind its first error it reads nothing.
type reader struct {
	s  string
	at int
	e  api.Errno
}

// fail keeps an error, if it is the first one and it holds.
func (r *reader) fail(holds bool, e api.Errno) {
	if r.e == api.OK && holds {
		r.e = e
	}
}

// number reads a number byte by byte. The tenth byte is 1 at most, so the sum isn't beyond 64 bits.
func (r *reader) number() uint64 {
	sum, place := uint64(0), uint64(1)
	for i := 0; r.e == api.OK; i++ {
		if r.at == len(r.s) {
			r.e = api.ErrShort
			break
		}
		b := r.s[r.at]
		r.fail(i == 9 && b > 1, api.ErrOver)
		r.fail(i != 0 && b == 0, api.ErrMinimal)
		if r.e != api.OK {
			break
		}
		r.at++
		sum += uint64(b&127) * place
		place *= 128
		if b < 128 {
			return sum
		}
	}
	return 0
}

// limited reads a number that has a limit.
func (r *reader) limited(limit uint64) int {
	n := r.number()
	r.fail(n > limit, api.ErrLimit)
	if r.e != api.OK {
		return 0
	}
	return int(n)
}

// actor reads an actor's blob, and where it is empty tells so.
func (r *reader) actor() string {
	n := r.limited(32)
	r.fail(len(r.s)-r.at < n, api.ErrShort)
	if r.e != api.OK {
		return ""
	}
	r.at += n
	r.fail(n == 0, api.ErrEmpty)
	return r.s[r.at-n : r.at]
}

// count reads the number behind an actor, and where it is 0 tells so.
func (r *reader) count() uint64 {
	n := r.number()
	r.fail(n == 0, api.ErrZero)
	return n
}

// flag reads a flag.
func (r *reader) flag() bool {
	r.fail(r.at == len(r.s), api.ErrShort)
	if r.e != api.OK {
		return false
	}
	r.at++
	r.fail(r.s[r.at-1] != 0 && r.s[r.at-1] != 1, api.ErrFlag)
	return r.s[r.at-1] == 1
}

// clock reads a clock: a zero one, where there is an error.
func (r *reader) clock() api.Clock {
	var k api.Clock
	ahead := "" // all actors are above it
	for n := r.limited(64); n > 0 && r.e == api.OK; n-- {
		x := api.Entry{Actor: r.actor()}
		r.fail(strings.Compare(x.Actor, ahead) <= 0, api.ErrOrder)
		x.Count = r.count()
		k.Ctx = append(k.Ctx, x)
		ahead = x.Actor
	}
	k.Dotted = r.flag()
	if k.Dotted {
		k.Dot.Actor = r.actor()
		k.Dot.Count = r.count()
		r.fail(k.Dot.Count <= upTo(k.Ctx, k.Dot.Actor), api.ErrDot)
	}
	if r.e != api.OK {
		return api.Clock{}
	}
	return k
}

// upTo is the count of an actor in a list whose actors rise. It walks from the right, so that it is no copy of the program.
func upTo(v []api.Entry, actor string) uint64 {
	for _, x := range slices.Backward(v) {
		if x.Actor == actor {
			return x.Count
		}
	}
	return 0
}

// plainNumber are a number's bytes.
func plainNumber(n uint64) string {
	if n < 128 {
		return string([]byte{byte(n)})
	}
	return string([]byte{byte(128 + n%128)}) + plainNumber(n/128)
}

// rule is a named error, and whether it holds.
type rule struct {
	holds bool
	e     api.Errno
}

// first is the error of the first rule that holds.
func first(l ...rule) api.Errno {
	for _, r := range l {
		if r.holds {
			return r.e
		}
	}
	return api.OK
}

// checked is what chapters 10 and 12 say of a clock: each error, looked for on its own.
func checked(k api.Clock) api.Errno {
	if len(k.Ctx) > 64 {
		return api.ErrLimit
	}
	ahead := ""
	for _, x := range k.Ctx {
		if e := first(rule{len(x.Actor) > 32, api.ErrLimit}, rule{x.Actor == "", api.ErrEmpty}, rule{strings.Compare(x.Actor, ahead) <= 0, api.ErrOrder}, rule{x.Count == 0, api.ErrZero}); e != api.OK {
			return e
		}
		ahead = x.Actor
	}
	if !k.Dotted {
		return first(rule{k.Dot.Actor != "" || k.Dot.Count != 0, api.ErrArg})
	}
	return first(rule{len(k.Dot.Actor) > 32, api.ErrLimit}, rule{k.Dot.Actor == "", api.ErrEmpty}, rule{k.Dot.Count == 0, api.ErrZero}, rule{k.Dot.Count <= upTo(k.Ctx, k.Dot.Actor), api.ErrDot})
}

// parts are the texts that are written of a clock, one by one.
func parts(k api.Clock) []string {
	event := func(x api.Entry) []string {
		return []string{plainNumber(uint64(len(x.Actor))), x.Actor, plainNumber(x.Count)}
	}
	l := []string{plainNumber(uint64(len(k.Ctx)))}
	for _, x := range k.Ctx {
		l = append(l, event(x)...)
	}
	if k.Dotted {
		return append(append(l, "\x01"), event(k.Dot)...)
	}
	return append(l, "\x00")
}

// plainPut writes clocks behind a text, up to a pen's room: what is written, and the error.
func plainPut(s string, room int, l []api.Clock) (string, api.Errno) {
	for _, k := range l {
		if e := checked(k); e != api.OK {
			return s, e
		}
		for _, part := range parts(k) {
			if len(s)+len(part) > room {
				return s, api.ErrLimit
			}
			s += part
		}
	}
	return s, api.OK
}

// wantPlain holds Take and Decode of a text against the plain reading, and what is read against what is written of it.
func wantPlain(t *testing.T, s string) {
	t.Helper()
	r := reader{s: s}
	want := r.clock()
	c := cursor.New(s)
	if k := dcode.Take(c); !alike(k, want) || c.At() != r.at || c.Err() != r.e {
		t.Fatalf("Take of %.60q: %#v at %d, error %d; not %#v at %d, error %d", s, k, c.At(), c.Err(), want, r.at, r.e)
	}
	switch {
	case r.e != api.OK:
		wantDecoded(t, s, api.Clock{}, r.e)
		return
	case r.at < len(s):
		wantDecoded(t, s, api.Clock{}, api.ErrTrail)
	default:
		wantDecoded(t, s, want, api.OK)
	}
	wantEncoded(t, want, s[:r.at], api.OK)
	if e := dotted.Check(want); e != api.OK {
		t.Fatalf("%.60q is read as %#v, which isn't right: %d", s, want, e)
	}
}

// wantWritten holds Encode of a clock against the plain writing.
func wantWritten(t *testing.T, k api.Clock) {
	t.Helper()
	want, e := plainPut("", 1<<20, []api.Clock{k})
	if e != api.OK {
		wantEncoded(t, k, "", e)
		return
	}
	wantEncoded(t, k, want, api.OK)
	wantDecoded(t, want, k, api.OK)
}

// wantPut holds Put of clocks against the plain writing.
func wantPut(t *testing.T, room int, l ...api.Clock) {
	t.Helper()
	want, e := plainPut("z", room, l)
	p := pen.New(room)
	p.Text("z")
	dcode.Put(p, l...)
	if p.Err() != e || p.Len() != len(want) {
		t.Fatalf("Put of %#v, room %d: %d bytes, error %d; not %.60q, error %d", l, room, p.Len(), p.Err(), want, e)
	}
	if s, _ := p.End(); e == api.OK && s != want {
		t.Fatalf("Put of %#v, room %d: %.60q, not %.60q", l, room, s, want)
	}
}

// wantOrdered holds Below of two clocks against the plain writing.
func wantOrdered(t *testing.T, a, b api.Clock) {
	t.Helper()
	if checked(a) != api.OK || checked(b) != api.OK {
		wantBelow(t, a, b, false, api.ErrArg)
		return
	}
	wantBelow(t, a, b, strings.Compare(strings.Join(parts(a), ""), strings.Join(parts(b), "")) < 0, api.OK)
}

// wantApart holds texts against there being none that another one begins with. In their order, such a one stands right ahead of one that begins with it.
func wantApart(t *testing.T, l []string) {
	t.Helper()
	l = slices.Compact(slices.Sorted(slices.Values(l)))
	for i := 1; i < len(l); i++ {
		if strings.HasPrefix(l[i], l[i-1]) {
			t.Fatalf("%.60q begins with %.60q", l[i], l[i-1])
		}
	}
}

// entries are all entries of some actors and counts.
func entries(actors []string, counts []uint64) []api.Entry {
	var l []api.Entry
	for _, s := range actors {
		for _, n := range counts {
			l = append(l, api.Entry{Actor: s, Count: n})
		}
	}
	return l
}

// anyClocks are all clocks of some vectors and dots, dotted or not.
func anyClocks(vectors [][]api.Entry, dots []api.Entry) []api.Clock {
	var l []api.Clock
	for _, v := range vectors {
		for _, d := range dots {
			l = append(l, dot(v, d.Actor, d.Count), stray(v, d.Actor, d.Count))
		}
	}
	return l
}

// TestAllShortTexts is of all texts of up to two bytes, alone and behind some beginnings, and of all of up to seven edge bytes.
func TestAllShortTexts(t *testing.T) {
	var all []byte
	for i := range 256 {
		all = append(all, byte(i))
	}
	for _, b := range rows(all, 2) {
		for _, ahead := range []string{"", "\x00", "\x01\x01a\x02", "\x00\x01", "\x00\x01\x01", "\x00\x01\x01a", "\x01\x01a\x02\x01", "\x01\x01a\x02\x01\x01", "\x01\x01a\x02\x01\x01a", "\x01\x01a\xac\x02\x01\x01a", "\x01\x01a\x02\x01\x01b", "\x00\x01" + nines[1:], "\x00\x01\x01a" + nines[1:], "\x01\x01a" + nines + "\x01\x01\x01a" + nines[1:]} {
			wantPlain(t, ahead+string(b))
		}
	}
	for _, b := range rows([]byte{0, 1, 2, 3, 128, 255}, 7) {
		wantPlain(t, string(b))
		wantPlain(t, "\x01\x01\x01"+string(b))
	}
}

// TestAllRowsOfPieces is of all rows of up to five pieces of clocks behind each of some vectors.
func TestAllRowsOfPieces(t *testing.T) {
	pieces := []string{"\x00", "\x01", "\x02", "\x01a", "\x01b", "\x02ab", "\x80\x01", "\x81\x00", mostBytes, nines + "\x02", "\x20" + long(32), "\x21"}
	for _, row := range rows(pieces, 5) {
		s := strings.Join(row, "")
		for _, v := range []string{"\x00", "\x01\x01a\x01", "\x01\x01a\x80\x01", "\x02\x01a\x01\x01b\x02"} {
			wantPlain(t, v+s)
		}
	}
}

// TestAllClocks is of all clocks of up to two entries and any dot, right or not; two that aren't the same have not the same bytes, and none's are a beginning of another one's.
func TestAllClocks(t *testing.T) {
	actors := []string{"", "a", "b", long(32), long(33)}
	counts := []uint64{0, 1, 128, most - 1, most}
	seen := map[string]bool{}
	for _, k := range anyClocks(rows(entries(actors, counts), 2), entries(append(actors, "ab"), counts)) {
		wantWritten(t, k)
		s, e := dcode.Encode(k)
		if e != api.OK || k.Dot == (api.Entry{}) { // those without a dot come once for each
			continue
		}
		if seen[s] {
			t.Fatalf("%.60q are the bytes of two clocks", s)
		}
		seen[s] = true
	}
	for _, v := range rows(entries(actors, counts), 2) {
		if s, e := dcode.Encode(bare(v)); e == api.OK {
			if seen[s] {
				t.Fatalf("%.60q are the bytes of two clocks", s)
			}
			seen[s] = true
		}
	}
	var l []string
	for s := range seen {
		l = append(l, s)
	}
	wantApart(t, l)
}

// TestAllPairsOfClocks is of all pairs of clocks of one or two entries, right or not.
func TestAllPairsOfClocks(t *testing.T) {
	vectors := append(rows(entries([]string{"", "a", "b"}, []uint64{0, 1, 2}), 1), vec("a1 b1"), vec("a2 b1"), vec("b1 a1"), one("a", 128), one("a", 256), one("a", most), one("ab", 1))
	dots := append(entries([]string{"a", "b", "ab"}, []uint64{0, 1, 2, 3, 129, 257, most}), entries([]string{"", long(33)}, []uint64{0, 1})...)
	all := anyClocks(vectors, dots)
	for _, a := range all {
		for _, b := range all {
			wantOrdered(t, a, b)
		}
	}
}

// TestAllRowsOfClocks puts all rows of up to three clocks, right or not, at pens of all rooms.
func TestAllRowsOfClocks(t *testing.T) {
	l := append(clks("", "+a1", "a1", "a1 +b300", "a1 b2", "a0", "b1 a1", "a1 +a1", "+a0"), dot(nil, "ab", most), dot(nil, "", 1), dot(nil, long(33), 1), stray(nil, "a", 1))
	for _, row := range rows(l, 3) {
		for room := range 50 {
			wantPut(t, room+1, row...)
		}
	}
}

// TestAnyTextsAndClocks is of texts and clocks that follow a rule: clocks' bytes, spoiled at some places, and rows of any clocks.
func TestAnyTextsAndClocks(t *testing.T) {
	x := uint32(1)
	next := func() int {
		x = x*1664525 + 1013904223
		return int(x >> 20)
	}
	text := func(n int) string {
		b := make([]byte, n)
		for i := range b {
			b[i] = byte(next())
		}
		return string(b)
	}
	entry := func() api.Entry {
		return api.Entry{Actor: text(1 + next()%33), Count: []uint64{1, 127, 128, most, 1 << 63, uint64(next()), uint64(next()) << 30, 1}[next()%8]}
	}
	clock := func() api.Clock {
		var k api.Clock
		for range next() % (1 + next()%67) {
			k.Ctx = append(k.Ctx, entry())
		}
		n := len(k.Ctx)
		if next()%8 > 0 {
			slices.SortFunc(k.Ctx, func(a, b api.Entry) int { return strings.Compare(a.Actor, b.Actor) })
		}
		if n > 0 && next()%8 == 0 {
			k.Ctx[next()%n] = api.Entry{Actor: text(next() % 34), Count: uint64(next() % 2)}
		}
		if next()%3 > 0 {
			k.Dotted, k.Dot = true, entry()
		}
		if k.Dotted && n > 0 && next()%2 == 0 { // around what the vector knows
			k.Dot = k.Ctx[next()%n]
			k.Dot.Count += uint64(next()%4 - 1)
		}
		if next()%40 == 0 {
			k.Dotted = !k.Dotted
		}
		return k
	}
	right := 0
	for range 20000 {
		a, b := clock(), clock()
		if checked(a) == api.OK {
			right++
		}
		wantWritten(t, a)
		wantPut(t, 1+next()%4096, a, b, api.Clock{}, a)
		wantOrdered(t, a, b)
		wantOrdered(t, a, api.Clock{Ctx: a.Ctx, Dotted: b.Dotted, Dot: b.Dot})
		wantPlain(t, text(next()%40))
		wantPlain(t, string([]byte{byte(next() % 4)})+text(next()%200))
		s := strings.Join(parts(a), "") // also of what isn't right
		wantPlain(t, s)
		wantPlain(t, s+text(next()%3))
		wantPlain(t, s[:next()%(len(s)+1)])
		at := next() % len(s)
		wantPlain(t, s[:at]+text(1)+s[at+1:])
		wantPlain(t, s[:at]+text(1)+s[at:])
		wantPlain(t, s[:at]+s[at+1:])
	}
	if right < 5000 {
		t.Fatalf("only %d are right", right)
	}
}
