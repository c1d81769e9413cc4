package dcode_test

import (
	"math"
	"slices"
	"strconv"
	"strings"
	"testing"

	"spence/api"
	"spence/cursor"
	"spence/dcode"
	"spence/dotted"
	"spence/pen"
)

const most = math.MaxUint64 // the greatest count

// The bytes of numbers at the edges, and of what is none.
const (
	mostBytes = "\xff\xff\xff\xff\xff\xff\xff\xff\xff\x01" // of the greatest one
	nines     = "\x80\x80\x80\x80\x80\x80\x80\x80\x80"     // the tenth byte ends it, or is too great
)

// anyErrors are errors that a cursor, or a pen, may have, those that aren't named too.
var anyErrors = []api.Errno{api.ErrArg, api.ErrShort, api.ErrLimit, api.ErrFlag, api.ErrEmpty, api.ErrDot, api.ErrTrail, api.ErrForm, -1, 19, math.MaxInt, math.MinInt}

// vec is a vector of actors of one byte with their counts: "a1 c2".
func vec(s string) []api.Entry {
	var v []api.Entry
	for _, w := range strings.Fields(s) {
		n, err := strconv.ParseUint(w[1:], 10, 64)
		if err != nil {
			panic(err)
		}
		v = append(v, api.Entry{Actor: w[:1], Count: n})
	}
	return v
}

// many is a right vector of n actors, all of four digits, so that they rise; each count is 3.
func many(n int) []api.Entry {
	var v []api.Entry
	for i := range n {
		v = append(v, api.Entry{Actor: strconv.Itoa(1000 + i), Count: 3})
	}
	return v
}

// manyBytes are the entries' bytes of many.
func manyBytes(n int) string {
	s := ""
	for i := range n {
		s += "\x04" + strconv.Itoa(1000+i) + "\x03"
	}
	return s
}

// greatest is the vector with the most bytes.
func greatest() []api.Entry {
	v := many(64)
	for i := range v {
		v[i] = api.Entry{Actor: v[i].Actor + long(28), Count: most}
	}
	return v
}

// greatestBytes are the bytes of greatest.
func greatestBytes() string {
	s := "\x40"
	for i := range 64 {
		s += "\x20" + strconv.Itoa(1000+i) + long(28) + mostBytes
	}
	return s
}

// one is a vector of one entry.
func one(actor string, n uint64) []api.Entry {
	return []api.Entry{{Actor: actor, Count: n}}
}

// long is an actor of n bytes.
func long(n int) string {
	return strings.Repeat("x", n)
}

// with is a vector in which the entry at a place is another one.
func with(v []api.Entry, at int, e api.Entry) []api.Entry {
	l := slices.Clone(v)
	l[at] = e
	return l
}

// bare is a clock that isn't dotted.
func bare(v []api.Entry) api.Clock {
	return api.Clock{Ctx: v}
}

// dot is a dotted clock.
func dot(v []api.Entry, actor string, n uint64) api.Clock {
	return api.Clock{Ctx: v, Dotted: true, Dot: api.Entry{Actor: actor, Count: n}}
}

// stray is a clock that isn't dotted, and has a dot.
func stray(v []api.Entry, actor string, n uint64) api.Clock {
	return api.Clock{Ctx: v, Dot: api.Entry{Actor: actor, Count: n}}
}

// clk is a clock of actors of one byte: "a1 b2" isn't dotted, "a1 b2 +a3" has the dot a 3.
func clk(s string) api.Clock {
	v, d, dots := strings.Cut(s, "+")
	if !dots {
		return bare(vec(v))
	}
	e := vec(d)[0]
	return dot(vec(v), e.Actor, e.Count)
}

// clks are some clocks.
func clks(l ...string) []api.Clock {
	var out []api.Clock
	for _, s := range l {
		out = append(out, clk(s))
	}
	return out
}

// alike tells whether two clocks have the same parts, without asking the program.
func alike(a, b api.Clock) bool {
	return slices.Equal(a.Ctx, b.Ctx) && a.Dotted == b.Dotted && a.Dot.Actor == b.Dot.Actor && a.Dot.Count == b.Dot.Count
}

// base is a right vector, its bytes, and one of its entries (of the empty vector none).
type base struct {
	v     []api.Entry
	s     string
	known api.Entry
}

// bases are right vectors, at all edges.
func bases() []base {
	return []base{
		{nil, "\x00", api.Entry{}}, {[]api.Entry{}, "\x00", api.Entry{}},
		{vec("a1"), "\x01\x01a\x01", vec("a1")[0]}, {vec("a5"), "\x01\x01a\x05", vec("a5")[0]}, {vec("a127"), "\x01\x01a\x7f", vec("a127")[0]}, {vec("a300"), "\x01\x01a\xac\x02", vec("a300")[0]}, {vec("a2 b7 c9"), "\x03\x01a\x02\x01b\x07\x01c\x09", vec("b7")[0]}, {vec("a9 b1"), "\x02\x01a\x09\x01b\x01", vec("b1")[0]},
		{one(long(32), 2), "\x01\x20" + long(32) + "\x02", one(long(32), 2)[0]}, {one("\x00", 1), "\x01\x01\x00\x01", one("\x00", 1)[0]}, {append(one("a", 4), one("aa", 6)...), "\x02\x01a\x04\x02aa\x06", one("aa", 6)[0]}, {append(one("\x7f", 1), one("\xff\xff", 2)...), "\x02\x01\x7f\x01\x02\xff\xff\x02", one("\xff\xff", 2)[0]},
		{one("a", 1<<63-1), "\x01\x01a\xff\xff\xff\xff\xff\xff\xff\xff\x7f", one("a", 1<<63-1)[0]}, {one("a", most-1), "\x01\x01a\xfe" + mostBytes[1:], one("a", most-1)[0]}, {one("a", most), "\x01\x01a" + mostBytes, one("a", most)[0]},
		{many(63), "\x3f" + manyBytes(63), many(63)[31]}, {many(64), "\x40" + manyBytes(64), many(64)[0]}, {many(64), "\x40" + manyBytes(64), many(64)[63]}, {greatest(), greatestBytes(), greatest()[63]},
	}
}

// right is a right clock, and its bytes.
type right struct {
	k api.Clock
	s string
}

// rights are right clocks, at all edges: each of the vectors without a dot, with dots of actors that it doesn't know, and with dots above what it knows.
func rights() []right {
	var l []right
	for _, b := range bases() {
		l = append(l, right{bare(b.v), b.s + "\x00"})
		l = append(l, right{dot(b.v, "z", 1), b.s + "\x01\x01z\x01"}, right{dot(b.v, "z", 300), b.s + "\x01\x01z\xac\x02"}, right{dot(b.v, "z", most), b.s + "\x01\x01z" + mostBytes}, right{dot(b.v, long(31), 127), b.s + "\x01\x1f" + long(31) + "\x7f"}, right{dot(b.v, strings.Repeat("\xff", 32), 128), b.s + "\x01\x20" + strings.Repeat("\xff", 32) + "\x80\x01"}, right{dot(b.v, "\x01", 1<<63), b.s + "\x01\x01\x01" + nines + "\x01"}, right{dot(b.v, "ab", 2), b.s + "\x01\x02ab\x02"})
		head := b.s + "\x01" + string([]byte{byte(len(b.known.Actor))}) + b.known.Actor
		for _, n := range []uint64{1, 2, 200} { // right above what is known, and further above
			if b.known.Count > 0 && b.known.Count <= most-n {
				l = append(l, right{dot(b.v, b.known.Actor, b.known.Count+n), head + plainNumber(b.known.Count+n)})
			}
		}
		if b.known.Count > 0 && b.known.Count < most {
			l = append(l, right{dot(b.v, b.known.Actor, most), head + mostBytes})
		}
	}
	return append(l, right{clk("+a1"), "\x00\x01\x01a\x01"}, right{clk("+a2"), "\x00\x01\x01a\x02"}, right{clk("a1 +a2"), "\x01\x01a\x01\x01\x01a\x02"}, right{clk("a1 +a3"), "\x01\x01a\x01\x01\x01a\x03"}, right{clk("a2 +b1"), "\x01\x01a\x02\x01\x01b\x01"}, right{clk("b2 +a1"), "\x01\x01b\x02\x01\x01a\x01"}, right{dot(nil, long(32), 1), "\x00\x01\x20" + long(32) + "\x01"}, right{dot(nil, "\x00", 1), "\x00\x01\x01\x00\x01"})
}

// fault is a clock that isn't right, and why.
type fault struct {
	k api.Clock
	e api.Errno
}

// badVectors are vectors that aren't right, by each of layer 10's errors; they have no dots.
func badVectors() []fault {
	return []fault{
		{bare(many(65)), api.ErrLimit}, {bare(make([]api.Entry, 65)), api.ErrLimit}, {bare(one(long(33), 1)), api.ErrLimit}, {bare(with(many(64), 63, one(long(33), 1)[0])), api.ErrLimit}, {bare(one(long(33), 0)), api.ErrLimit},
		{bare(one("", 1)), api.ErrEmpty}, {bare(append(vec("a1"), one("", 1)...)), api.ErrEmpty}, {bare(with(many(64), 0, api.Entry{})), api.ErrEmpty},
		{clk("a1 a1"), api.ErrOrder}, {clk("b1 a1"), api.ErrOrder}, {clk("b1 a0"), api.ErrOrder}, {bare(append(one("ab", 1), one("a", 1)...)), api.ErrOrder}, {bare(append(one("\xff", 1), one("a", 1)...)), api.ErrOrder}, {bare(with(many(64), 63, many(1)[0])), api.ErrOrder},
		{clk("a0"), api.ErrZero}, {clk("a1 b0"), api.ErrZero}, {bare(with(many(64), 63, api.Entry{Actor: "z"})), api.ErrZero},
	}
}

// faults are clocks with each of Check's errors, at all edges.
func faults() []fault {
	l := badVectors()
	for _, f := range badVectors() { // whatever the dot is
		for _, d := range []api.Entry{{}, {Actor: "a", Count: 1}, {Actor: "q", Count: 9}, {Actor: "a"}, {Count: 1}, {Actor: long(32), Count: most}, {Actor: long(33), Count: 1}} {
			l = append(l, fault{dot(f.k.Ctx, d.Actor, d.Count), f.e}, fault{stray(f.k.Ctx, d.Actor, d.Count), f.e})
		}
	}
	for _, b := range bases() {
		l = append(l,
			fault{dot(b.v, long(33), 1), api.ErrLimit}, fault{dot(b.v, long(33), 0), api.ErrLimit}, fault{dot(b.v, long(5000), most), api.ErrLimit},
			fault{dot(b.v, "", 1), api.ErrEmpty}, fault{dot(b.v, "", 0), api.ErrEmpty}, fault{dot(b.v, "", most), api.ErrEmpty},
			fault{dot(b.v, "z", 0), api.ErrZero}, fault{dot(b.v, strings.Repeat("\xff", 32), 0), api.ErrZero},
			fault{stray(b.v, "z", 1), api.ErrArg}, fault{stray(b.v, "z", 0), api.ErrArg}, fault{stray(b.v, "", 1), api.ErrArg}, fault{stray(b.v, "", most), api.ErrArg}, fault{stray(b.v, long(33), 0), api.ErrArg},
		)
		if b.known.Count == 0 {
			continue
		}
		l = append(l, fault{dot(b.v, b.known.Actor, 0), api.ErrZero}, fault{dot(b.v, b.known.Actor, 1), api.ErrDot}, fault{dot(b.v, b.known.Actor, b.known.Count), api.ErrDot}, fault{stray(b.v, b.known.Actor, b.known.Count), api.ErrArg})
		if b.known.Count > 1 {
			l = append(l, fault{dot(b.v, b.known.Actor, b.known.Count-1), api.ErrDot})
		}
		if b.known.Count < most {
			l = append(l, fault{stray(b.v, b.known.Actor, b.known.Count+1), api.ErrArg})
		}
	}
	return l
}

// wrong is a text that begins with no clock: the error, and the place behind it.
type wrong struct {
	s  string
	e  api.Errno
	at int
}

// wrongVectors are texts with each of the errors of reading a vector, but for bytes that end too early.
func wrongVectors() []wrong {
	return []wrong{
		{"\x41", api.ErrLimit, 1}, {"\x41" + manyBytes(65), api.ErrLimit, 1}, {mostBytes, api.ErrLimit, 10}, {"\x80\x00", api.ErrMinimal, 1}, {"\x81\x00\x01a\x01", api.ErrMinimal, 1}, {nines + "\x02", api.ErrOver, 9},
		{"\x01\x21", api.ErrLimit, 2}, {"\x01\x21" + long(33) + "\x01", api.ErrLimit, 2}, {"\x01\x81\x00a\x01", api.ErrMinimal, 2}, {"\x01" + nines + "\x02", api.ErrOver, 10},
		{"\x01\x00", api.ErrEmpty, 2}, {"\x01\x00\x00", api.ErrEmpty, 2}, {"\x02\x01a\x01\x00\x01", api.ErrEmpty, 5},
		{"\x02\x01a\x01\x01a\x02", api.ErrOrder, 6}, {"\x02\x01b\x01\x01a\x00", api.ErrOrder, 6}, {"\x02\x02ab\x01\x01a\x01", api.ErrOrder, 7}, {"\x40" + manyBytes(63) + "\x04" + "1062", api.ErrOrder, 384},
		{"\x01\x01a\x81\x00", api.ErrMinimal, 4}, {"\x01\x01a" + nines + "\x02", api.ErrOver, 12},
		{"\x01\x01a\x00", api.ErrZero, 4}, {"\x02\x01a\x01\x01b\x00", api.ErrZero, 7}, {"\x40" + manyBytes(63) + "\x01z\x00", api.ErrZero, 382},
	}
}

// wrongDots are texts with each of the errors of reading a dot, whatever the vector knows; the places are those from the dot on.
func wrongDots() []wrong {
	return []wrong{
		// the blob
		{"\x21", api.ErrLimit, 1}, {"\x21" + long(33) + "\x01", api.ErrLimit, 1}, {"\x21" + long(33) + "\x00", api.ErrLimit, 1}, {"\x7f", api.ErrLimit, 1}, {"\x80\x01", api.ErrLimit, 2}, {mostBytes, api.ErrLimit, 10}, {nines + "\x01", api.ErrLimit, 10}, {"\x80\x80\x80\x80\x10z\x01", api.ErrLimit, 5},
		{"\x80\x00", api.ErrMinimal, 1}, {"\x81\x00z\x01", api.ErrMinimal, 1}, {"\xa1\x00", api.ErrMinimal, 1}, {"\x81\x80\x00", api.ErrMinimal, 2}, {nines + "\x00", api.ErrMinimal, 9}, {nines + "\x02", api.ErrOver, 9}, {nines + "\xff", api.ErrOver, 9},
		// the actor is empty: its number isn't looked at
		{"\x00", api.ErrEmpty, 1}, {"\x00\x01", api.ErrEmpty, 1}, {"\x00\x00", api.ErrEmpty, 1}, {"\x00\x80", api.ErrEmpty, 1}, {"\x00\x80\x00", api.ErrEmpty, 1}, {"\x00" + nines + "\x02", api.ErrEmpty, 1},
		// the number
		{"\x01z\x80\x00", api.ErrMinimal, 3}, {"\x01z\x81\x00", api.ErrMinimal, 3}, {"\x01z\xff\x80\x00", api.ErrMinimal, 4}, {"\x01z" + nines + "\x00", api.ErrMinimal, 11}, {"\x20" + long(32) + "\x81\x00", api.ErrMinimal, 34}, {"\x01z" + nines + "\x02", api.ErrOver, 11}, {"\x01z" + mostBytes[:9] + "\x02", api.ErrOver, 11}, {"\x01z" + nines + "\x80\x01", api.ErrOver, 11},
		// it is 0
		{"\x01z\x00", api.ErrZero, 3}, {"\x01\x01\x00", api.ErrZero, 3}, {"\x02ab\x00", api.ErrZero, 4}, {"\x20" + strings.Repeat("\xff", 32) + "\x00", api.ErrZero, 34},
	}
}

// wrongs are texts with each of the errors of reading, but for bytes that end too early.
func wrongs() []wrong {
	var l []wrong
	behind := []string{"", "\x00", "\x02", "\x01\x00", "\x01\x21", "\x01\x01a\x00", "\x01\x01a\x01", "\x01\x01a\x80\x00", "\x01\x01z\x01"} // flags and dots, right or wrong
	for _, w := range wrongVectors() {
		for _, s := range behind {
			l = append(l, wrong{w.s + s, w.e, w.at})
		}
	}
	for _, b := range bases() {
		for flag := 2; flag < 256; flag++ {
			l = append(l, wrong{b.s + string([]byte{byte(flag)}) + behind[flag%len(behind)], api.ErrFlag, len(b.s) + 1})
		}
		for _, w := range wrongDots() {
			l = append(l, wrong{b.s + "\x01" + w.s, w.e, len(b.s) + 1 + w.at})
		}
		if b.known.Count == 0 {
			continue
		}
		head := b.s + "\x01" + string([]byte{byte(len(b.known.Actor))}) + b.known.Actor
		l = append(l, wrong{head + "\x00", api.ErrZero, len(head) + 1}, wrong{head + "\x81\x00", api.ErrMinimal, len(head) + 1}, wrong{head + nines + "\x02", api.ErrOver, len(head) + 9})
		for _, n := range []uint64{1, b.known.Count - 1, b.known.Count} {
			if number := plainNumber(n); n > 0 {
				l = append(l, wrong{head + number, api.ErrDot, len(head) + len(number)})
			}
		}
	}
	return append(l, wrong{"\x01\x01a\x02\x01\x01a\x02", api.ErrDot, 8}, wrong{"\x01\x01a\xac\x02\x01\x01a\xab\x02", api.ErrDot, 10}, wrong{"\x02\x01a\x05\x01b\x01\x01\x01a\x02", api.ErrDot, 11})
}

// shorts are texts that end too early: the place is that of the part that isn't there, of a number that of its missing byte.
func shorts() []wrong {
	l := []wrong{
		{"", api.ErrShort, 0}, {"\x80", api.ErrShort, 1}, {nines, api.ErrShort, 9}, {"\x01", api.ErrShort, 1}, {"\x01\x02a", api.ErrShort, 2}, {"\x01\x01a", api.ErrShort, 3}, {"\x01\x01a\x80", api.ErrShort, 4}, {"\x02\x01a\x01", api.ErrShort, 4}, {"\x40" + manyBytes(63), api.ErrShort, 379},
	}
	for _, b := range bases() {
		n := len(b.s)
		l = append(l, wrong{b.s, api.ErrShort, n}) // the flag
		for _, w := range []wrong{{"", api.ErrShort, 0}, {"\x80", api.ErrShort, 1}, {nines, api.ErrShort, 9}, {"\x01", api.ErrShort, 1}, {"\x02z", api.ErrShort, 1}, {"\x20", api.ErrShort, 1}, {"\x20" + long(31), api.ErrShort, 1}, {"\x01z", api.ErrShort, 2}, {"\x01z\x80", api.ErrShort, 3}, {"\x01z" + nines, api.ErrShort, 11}, {"\x20" + long(32), api.ErrShort, 33}} {
			l = append(l, wrong{b.s + "\x01" + w.s, w.e, n + 1 + w.at})
		}
	}
	return l
}

// wantCursor holds a cursor against its place and its error.
func wantCursor(t *testing.T, s string, c *cursor.Cursor, at int, e api.Errno) {
	t.Helper()
	if c.At() != at || c.Err() != e {
		t.Fatalf("%.60q: at %d with the error %d, not at %d with %d", s, c.At(), c.Err(), at, e)
	}
}

// wantNone holds Take of a cursor with an error against there being nothing, and the cursor against what it was.
func wantNone(t *testing.T, s string, c *cursor.Cursor) {
	t.Helper()
	at, e := c.At(), c.Err()
	for range 2 {
		if k := dcode.Take(c); !alike(k, api.Clock{}) {
			t.Fatalf("%.60q with the error %d: %#v", s, e, k)
		}
		wantCursor(t, s, c, at, e)
	}
}

// wantPen holds a pen against its text (empty beside an error), how much was written, and its error.
func wantPen(t *testing.T, p *pen.Pen, text string, n int, e api.Errno) {
	t.Helper()
	if s, end := p.End(); s != text || end != e || p.Err() != e || p.Len() != n {
		t.Fatalf("the pen has %.60q, %d, %d bytes, not %.60q, %d, %d bytes", s, end, p.Len(), text, e, n)
	}
}

// wantDecoded holds Decode against a clock and an error.
func wantDecoded(t *testing.T, s string, want api.Clock, e api.Errno) {
	t.Helper()
	if k, got := dcode.Decode(s); !alike(k, want) || got != e {
		t.Fatalf("of %.60q (%d bytes): %#v, error %d; not %#v, error %d", s, len(s), k, got, want, e)
	}
}

// wantEncoded holds Encode against a text and an error.
func wantEncoded(t *testing.T, k api.Clock, want string, e api.Errno) {
	t.Helper()
	if s, got := dcode.Encode(k); s != want || got != e {
		t.Fatalf("of %#v: %.60q, error %d; not %.60q, error %d", k, s, got, want, e)
	}
}

// wantBelow holds Below against what it should tell, and an error.
func wantBelow(t *testing.T, a, b api.Clock, want bool, e api.Errno) {
	t.Helper()
	if below, got := dcode.Below(a, b); below != want || got != e {
		t.Fatalf("%#v below %#v: %v, error %d; not %v, error %d", a, b, below, got, want, e)
	}
}

// P13.1: Take

func TestTakeAtEachPlaceOfAText(t *testing.T) {
	for _, r := range rights() {
		for _, ahead := range []string{"", "a", "\x00\x00", "\x01\x01z\x09\x00", "\xff\x80"} {
			for _, behind := range []string{"", "\x00", "\x01", "\x01\x01a\x01", "\x00\x00", "\xff", "\x80\x00"} {
				s := ahead + r.s + behind
				c := cursor.New(s)
				c.Bytes(len(ahead))
				if k := dcode.Take(c); !alike(k, r.k) {
					t.Fatalf("%.60q: %#v, not %#v", s, k, r.k)
				}
				wantCursor(t, s, c, len(ahead)+len(r.s), api.OK)
			}
		}
	}
}

func TestTakeOneBehindTheOther(t *testing.T) {
	s := ""
	for _, r := range rights() {
		s += r.s
	}
	c := cursor.New(s)
	for _, r := range rights() {
		from := c.At()
		if k := dcode.Take(c); !alike(k, r.k) || c.Since(from) != r.s {
			t.Fatalf("%#v of %.60q, not %#v", k, c.Since(from), r.k)
		}
	}
	wantCursor(t, s, c, len(s), api.OK)
	if k := dcode.Take(c); !alike(k, api.Clock{}) {
		t.Fatalf("at the end: %#v", k)
	}
	wantCursor(t, s, c, len(s), api.ErrShort)
	wantNone(t, s, c)
}

// TestTakeKnowsNothingOfTheOneAhead reads a dot that the clock ahead of it knows, and a clock without a dot behind a dotted one.
func TestTakeKnowsNothingOfTheOneAhead(t *testing.T) {
	s := "\x01\x01b\x09\x01\x01a\x05" + "\x01\x01a\x01\x01\x01b\x01" + "\x00\x00" + "\x00\x01\x01a\x05"
	c := cursor.New(s)
	for _, want := range []string{"b9 +a5", "a1 +b1", "", "+a5"} {
		if k := dcode.Take(c); !alike(k, clk(want)) {
			t.Fatalf("%#v, not %s", k, want)
		}
	}
	wantCursor(t, s, c, len(s), api.OK)
}

func TestTakeOfEachError(t *testing.T) {
	for _, w := range wrongs() {
		for _, ahead := range []string{"", "a", "\x01\x01z\x01\x00"} {
			for _, behind := range []string{"", "\x00", "\x01\x01a\x01\x00"} {
				s := ahead + w.s + behind
				c := cursor.New(s)
				c.Bytes(len(ahead))
				if k := dcode.Take(c); !alike(k, api.Clock{}) {
					t.Fatalf("%.60q: %#v", s, k)
				}
				wantCursor(t, s, c, len(ahead)+w.at, w.e)
				wantNone(t, s, c)
			}
		}
	}
}

func TestTakeOfWhatEndsTooEarly(t *testing.T) {
	for _, w := range shorts() {
		for _, ahead := range []string{"", "a", "\x01\x01z\x01\x00", "\xff\xff"} {
			s := ahead + w.s
			c := cursor.New(s)
			c.Bytes(len(ahead))
			if k := dcode.Take(c); !alike(k, api.Clock{}) {
				t.Fatalf("%.60q: %#v", s, k)
			}
			wantCursor(t, s, c, len(ahead)+w.at, w.e)
			wantNone(t, s, c)
		}
	}
}

// TestTakeBehindAClockThatIsWrong reads right clocks up to the first wrong one: nothing is read behind it.
func TestTakeBehindAClockThatIsWrong(t *testing.T) {
	for _, w := range wrongs() {
		s := "\x01\x01a\x01\x01\x01a\x02" + "\x00\x00" + w.s + "\x01\x01a\x01\x00"
		c := cursor.New(s)
		if k := dcode.Take(c); !alike(k, clk("a1 +a2")) {
			t.Fatalf("%.60q: %#v", s, k)
		}
		if k := dcode.Take(c); !alike(k, api.Clock{}) || c.Err() != api.OK {
			t.Fatalf("%.60q: %#v, error %d", s, k, c.Err())
		}
		dcode.Take(c)
		wantCursor(t, s, c, 10+w.at, w.e)
		wantNone(t, s, c)
	}
}

func TestTakeOfACursorWithAnError(t *testing.T) {
	for _, e := range anyErrors {
		for _, r := range rights() {
			for _, at := range []int{0, len(r.s) / 2, len(r.s)} {
				s := r.s + "\x00\x00"
				c := cursor.New(s)
				c.Bytes(at)
				c.Fail(e)
				wantCursor(t, s, c, at, e)
				wantNone(t, s, c)
			}
		}
	}
}

func TestTakeOfNil(t *testing.T) {
	var c *cursor.Cursor
	wantCursor(t, "nil", c, 0, api.ErrArg)
	wantNone(t, "nil", c)
}

// P13.1: Put

func TestPutOfOne(t *testing.T) {
	for _, r := range rights() {
		for _, room := range []int{len(r.s), len(r.s) + 1, math.MaxInt - 1} {
			p := pen.New(room + 1)
			p.Text("a")
			dcode.Put(p, r.k)
			wantPen(t, p, "a"+r.s, 1+len(r.s), api.OK)
		}
	}
}

func TestPutOfNone(t *testing.T) {
	for _, room := range []int{2, 3, math.MaxInt} {
		p := pen.New(room)
		p.Text("ab")
		dcode.Put(p)
		dcode.Put(p, nil...)
		dcode.Put(p, []api.Clock{}...)
		wantPen(t, p, "ab", 2, api.OK)
	}
}

func TestPutOfEmptyOnes(t *testing.T) {
	p := pen.New(6)
	dcode.Put(p, api.Clock{})
	wantPen(t, p, "\x00\x00", 2, api.OK)
	dcode.Put(p, bare([]api.Entry{}), bare(make([]api.Entry, 0, 9)))
	wantPen(t, p, "\x00\x00\x00\x00\x00\x00", 6, api.OK)
	dcode.Put(p, api.Clock{})
	wantPen(t, p, "", 6, api.ErrLimit)
}

func TestPutOfMany(t *testing.T) {
	s := ""
	var l []api.Clock
	for _, r := range rights() {
		s += r.s
		l = append(l, r.k)
	}
	p := pen.New(len(s))
	dcode.Put(p, l...)
	wantPen(t, p, s, len(s), api.OK)
	q := pen.New(2 * len(s))
	for _, k := range l {
		dcode.Put(q, k, k)
	}
	if q.Len() != 2*len(s) || q.Err() != api.OK {
		t.Fatalf("%d bytes, error %d", q.Len(), q.Err())
	}
}

// TestPutOfManyThousand is of clocks that know nothing of one another.
func TestPutOfManyThousand(t *testing.T) {
	l := slices.Repeat(clks("b1 +a5", "", "+b1", "a5"), 20000)
	s := strings.Repeat("\x01\x01b\x01\x01\x01a\x05"+"\x00\x00"+"\x00\x01\x01b\x01"+"\x01\x01a\x05\x00", 20000)
	p := pen.New(math.MaxInt)
	dcode.Put(p, l...)
	wantPen(t, p, s, len(s), api.OK)
}

// TestPutOfOneThatIsNotRight puts one that isn't right among right ones, at each place: those ahead of it are written, nothing of it, and nothing behind it.
func TestPutOfOneThatIsNotRight(t *testing.T) {
	around := []right{{clk("a1 +a2"), "\x01\x01a\x01\x01\x01a\x02"}, {api.Clock{}, "\x00\x00"}, {clk("b300"), "\x01\x01b\xac\x02\x00"}}
	for _, f := range faults() {
		n := 1
		for at := range len(around) + 1 {
			var l []api.Clock
			for _, r := range around {
				l = append(l, r.k)
			}
			p := pen.New(100000)
			p.Text("z")
			dcode.Put(p, slices.Insert(l, at, f.k)...)
			wantPen(t, p, "", n, f.e)
			dcode.Put(p, api.Clock{}, clk("a1"))
			wantPen(t, p, "", n, f.e)
			if at < len(around) {
				n += len(around[at].s)
			}
		}
	}
}

// TestPutOfTwoThatAreNotRight tells the first one's error.
func TestPutOfTwoThatAreNotRight(t *testing.T) {
	for _, f := range faults() {
		for _, g := range faults() {
			p := pen.New(100000)
			dcode.Put(p, clk("a1"), f.k, g.k)
			wantPen(t, p, "", 5, f.e)
		}
	}
}

// TestPutOfOneThatIsNotRightWhereNothingFits tells Check's error, since none of its bytes is tried; but that of an earlier one that doesn't fit.
func TestPutOfOneThatIsNotRightWhereNothingFits(t *testing.T) {
	for _, f := range faults() {
		for _, room := range []int{math.MinInt, -1, 0} {
			p := pen.New(room)
			dcode.Put(p, f.k)
			wantPen(t, p, "", 0, f.e)
		}
		p := pen.New(5)
		dcode.Put(p, clk("+a1"), f.k)
		wantPen(t, p, "", 5, f.e)
		for room, n := range []int{0, 1, 2, 3, 4} { // each part of the first one has one byte
			q := pen.New(room)
			dcode.Put(q, clk("+a1"), f.k)
			wantPen(t, q, "", n, api.ErrLimit)
		}
	}
}

func TestPutOfAPenWithAnError(t *testing.T) {
	for _, e := range anyErrors {
		p := pen.New(100)
		p.Text("ab")
		p.Fail(e)
		dcode.Put(p)
		dcode.Put(p, api.Clock{})
		for _, r := range rights() {
			dcode.Put(p, r.k)
			wantPen(t, p, "", 2, e)
		}
		for _, f := range faults() {
			dcode.Put(p, f.k)
			dcode.Put(p, api.Clock{}, f.k)
			wantPen(t, p, "", 2, e)
		}
	}
}

func TestPutOfNil(t *testing.T) {
	var p *pen.Pen
	dcode.Put(p)
	dcode.Put(p, api.Clock{})
	for _, r := range rights() {
		dcode.Put(p, r.k, r.k)
	}
	for _, f := range faults() {
		dcode.Put(p, f.k)
	}
	wantPen(t, p, "", 0, api.ErrArg)
}

// TestPutAtEachLimit lists by hand how much is written at each limit: a clock whose parts are 1 (count), 1 and 3 (length, actor), 2 (number), 1 (flag), 1 and 2 (length, actor), 10 bytes (number), and one behind it.
func TestPutAtEachLimit(t *testing.T) {
	k := dot(one("abc", 300), "bc", most)
	s := "\x01\x03abc\xac\x02\x01\x02bc" + mostBytes + "\x00\x00"
	for room, n := range []int{0, 1, 2, 2, 2, 5, 5, 7, 8, 9, 9, 11, 11, 11, 11, 11, 11, 11, 11, 11, 11, 21, 22} {
		p := pen.New(1 + room)
		p.Text("z")
		dcode.Put(p, k, api.Clock{}, clk("a1"))
		wantPen(t, p, "", 1+n, api.ErrLimit)
		dcode.Put(p, api.Clock{})
		wantPen(t, p, "", 1+n, api.ErrLimit)
	}
	p := pen.New(23)
	dcode.Put(p, k, api.Clock{})
	wantPen(t, p, s, 23, api.OK)
}

// TestPutOfEachRightOneAtEachLimit cuts all right clocks, so that the limit is within each of their parts.
func TestPutOfEachRightOneAtEachLimit(t *testing.T) {
	for _, r := range rights() {
		ends := []int{0} // where parts end
		for _, part := range parts(r.k) {
			ends = append(ends, ends[len(ends)-1]+len(part))
		}
		for room := range len(r.s) {
			n := 0
			for _, end := range ends {
				if end <= room {
					n = end
				}
			}
			p := pen.New(room)
			dcode.Put(p, r.k)
			wantPen(t, p, "", n, api.ErrLimit)
		}
	}
}

// P13.2: Encode

func TestEncode(t *testing.T) {
	for _, r := range rights() {
		wantEncoded(t, r.k, r.s, api.OK)
	}
}

func TestTheExample(t *testing.T) {
	wantEncoded(t, clk("+a1"), "\x00\x01\x01a\x01", api.OK)
	wantDecoded(t, "\x00\x01\x01a\x01", clk("+a1"), api.OK)
}

func TestEncodeOfWhatIsNotRight(t *testing.T) {
	for _, f := range faults() {
		wantEncoded(t, f.k, "", f.e)
		if e := dotted.Check(f.k); e != f.e {
			t.Fatalf("of %#v: Check's error is %d, not %d", f.k, e, f.e)
		}
	}
	wantEncoded(t, bare(make([]api.Entry, 1<<20)), "", api.ErrLimit)
	wantEncoded(t, dot(nil, long(1<<20), 1), "", api.ErrLimit)
}

// TestEncodeOfDotsAtEachEntry is of dots of each actor of a full vector, around its count.
func TestEncodeOfDotsAtEachEntry(t *testing.T) {
	for at := range 64 {
		k := dot(many(64), strconv.Itoa(1000+at), 0)
		for n, e := range []api.Errno{api.ErrZero, api.ErrDot, api.ErrDot, api.ErrDot, api.OK, api.OK} {
			k.Dot.Count = uint64(n)
			s := "\x40" + manyBytes(64) + "\x01\x04" + k.Dot.Actor + string([]byte{byte(n)})
			if e != api.OK {
				wantEncoded(t, k, "", e)
				wantDecoded(t, s, api.Clock{}, e)
				continue
			}
			wantEncoded(t, k, s, api.OK)
			wantDecoded(t, s, k, api.OK)
		}
	}
}

// P13.2: Decode

func TestDecode(t *testing.T) {
	for _, r := range rights() {
		wantDecoded(t, r.s, r.k, api.OK)
	}
}

func TestDecodeOfEachError(t *testing.T) {
	for _, w := range append(wrongs(), shorts()...) {
		wantDecoded(t, w.s, api.Clock{}, w.e)
	}
	for _, w := range wrongs() { // ErrTrail comes behind the errors of reading
		wantDecoded(t, w.s+"\x00", api.Clock{}, w.e)
		wantDecoded(t, w.s+long(100), api.Clock{}, w.e)
	}
}

func TestDecodeOfEachBeginning(t *testing.T) {
	for _, r := range rights() {
		for n := range len(r.s) {
			wantDecoded(t, r.s[:n], api.Clock{}, api.ErrShort)
		}
	}
}

func TestDecodeWithOthersBehind(t *testing.T) {
	for _, r := range rights() {
		for b := range 256 {
			wantDecoded(t, r.s+string([]byte{byte(b)}), api.Clock{}, api.ErrTrail)
		}
		for _, s := range rights() {
			wantDecoded(t, r.s+s.s, api.Clock{}, api.ErrTrail)
		}
		wantDecoded(t, r.s+long(100000), api.Clock{}, api.ErrTrail)
	}
	wantDecoded(t, "\x00\x00\x01a\x01", api.Clock{}, api.ErrTrail) // a dot where none is told
}

// P13.2: Below

// TestBelow is of pairs the first of which is below the second one: they are unlike at one part.
func TestBelow(t *testing.T) {
	for _, c := range []struct{ a, b api.Clock }{
		// the count of entries, whatever stands behind it
		{clk(""), clk("a1")}, {clk("+z9"), clk("a1")}, {clk("a1"), clk("a1 b1")}, {clk("z9 +z999"), clk("a1 b1")}, {bare(many(63)), bare(many(64))}, {bare(greatest()[:63]), bare(many(64))}, {clk("a1 b1 +c1"), clk("a1 b1 c1")},
		// an actor, its length first
		{clk("a1"), clk("b1")}, {clk("a9"), clk("b1")}, {clk("a1 b1"), clk("a1 c1")}, {clk("b1"), bare(one("aa", 1))}, {bare(one(long(31), 1)), bare(one("a"+long(31), 1))}, {bare(one("\x7f", 1)), bare(one("\x80", 1))}, {bare(one("a\xff", 1)), bare(one("b\x00", 1))}, {clk("a1 +z1"), clk("b1 +c1")}, {bare(many(64)), bare(with(many(64), 63, many(65)[64]))},
		// a count, its lowest bits first
		{clk("a1"), clk("a2")}, {clk("a1 b1"), clk("a1 b2")}, {clk("a1 b9"), clk("a2 b1")}, {clk("a127"), clk("a128")}, {clk("a256"), clk("a129")}, {clk("a128"), clk("a129")}, {clk("a128"), clk("a256")}, {clk("a2 +a9"), clk("a3")}, {clk("a16384"), bare(one("a", most))},
		// the flag
		{clk(""), clk("+a1")}, {clk("a1"), clk("a1 +a2")}, {clk("a1"), clk("a1 +b1")}, {bare(many(64)), dot(many(64), "\x00", 1)}, {bare(greatest()), dot(greatest(), "a", 1)},
		// the dot's actor
		{clk("+a1"), clk("+b1")}, {clk("+a9"), clk("+b1")}, {clk("a1 +a2"), clk("a1 +b1")}, {clk("+b1"), dot(nil, "aa", 1)}, {dot(nil, "aa", 1), dot(nil, "ab", 1)}, {clk("+\x7f1"), clk("+\x801")}, {dot(many(64), "y", 9), dot(many(64), "z", 1)}, {dot(nil, long(31), 1), dot(nil, long(32), 1)},
		// the dot's count
		{clk("+a1"), clk("+a2")}, {clk("a1 +a2"), clk("a1 +a3")}, {clk("+a127"), clk("+a128")}, {clk("+a256"), clk("+a129")}, {dot(nil, "a", 1<<63), dot(nil, "a", most)}, {dot(nil, "a", most-1), dot(nil, "a", most)}, {dot(many(64), "1063", 4), dot(many(64), "1063", 5)},
	} {
		wantBelow(t, c.a, c.b, true, api.OK)
		wantBelow(t, c.b, c.a, false, api.OK)
	}
}

// TestBelowOfAllRightOnes holds all pairs against their bytes; each is not below itself, nor below one that is the same.
func TestBelowOfAllRightOnes(t *testing.T) {
	for _, a := range rights() {
		wantBelow(t, a.k, a.k, false, api.OK)
		for _, b := range rights() {
			wantBelow(t, a.k, b.k, strings.Compare(a.s, b.s) < 0, api.OK)
		}
	}
	wantBelow(t, bare(nil), bare([]api.Entry{}), false, api.OK)
	wantBelow(t, bare([]api.Entry{}), bare(nil), false, api.OK)
}

func TestBelowOfWhatIsNotRight(t *testing.T) {
	for _, f := range faults() {
		wantBelow(t, f.k, f.k, false, api.ErrArg)
		for _, k := range append(clks("", "a1", "+a1", "z9 +z99"), bare(many(64)), dot(greatest(), "z", most)) {
			wantBelow(t, f.k, k, false, api.ErrArg)
			wantBelow(t, k, f.k, false, api.ErrArg)
		}
		for _, g := range faults() {
			wantBelow(t, f.k, g.k, false, api.ErrArg)
		}
	}
}

// P13.3

func TestEachRightOneHasATextOfItsOwn(t *testing.T) {
	seen := map[string]api.Clock{}
	for _, r := range rights() {
		if k, ok := seen[r.s]; ok && !alike(k, r.k) {
			t.Fatalf("%#v and %#v have the same bytes", k, r.k)
		}
		seen[r.s] = r.k
		s, _ := dcode.Encode(r.k)
		k, e := dcode.Decode(s)
		if e != api.OK || !alike(k, r.k) || dotted.Check(k) != api.OK {
			t.Fatalf("%#v became %#v, error %d", r.k, k, e)
		}
		again, e := dcode.Encode(k)
		if again != s || e != api.OK {
			t.Fatalf("%.60q became %.60q, error %d", s, again, e)
		}
	}
}

// TestThoseThatKnowTheSameHaveBytesOfTheirOwn is of clocks that know the same, but are written otherwise.
func TestThoseThatKnowTheSameHaveBytesOfTheirOwn(t *testing.T) {
	for _, l := range [][]api.Clock{clks("a1", "+a1"), clks("a2 +a3", "a3"), clks("a1 b1", "a1 +b1", "b1 +a1")} {
		for i, a := range l {
			for j, b := range l {
				s, _ := dcode.Encode(a)
				o, _ := dcode.Encode(b)
				if (s == o) != (i == j) {
					t.Errorf("%#v and %#v: %q and %q", a, b, s, o)
				}
			}
		}
	}
}

// TestNoneBeginsWithAnother: no right clock's bytes are a beginning of another one's. In their order, one that another one begins with stands right ahead of such a one.
func TestNoneBeginsWithAnother(t *testing.T) {
	var l []string
	for _, r := range rights() {
		s, _ := dcode.Encode(r.k)
		l = append(l, s)
	}
	wantApart(t, l)
}

// otherBytes are the bytes into which one of a text is turned: all of them, in long texts those at edges and those beside it.
func otherBytes(b byte, long bool) []byte {
	if long {
		return []byte{0, 1, 2, 32, 33, 65, 128, 255, b - 1, b + 1, b ^ 128}
	}
	var l []byte
	for i := range 256 {
		l = append(l, byte(i))
	}
	return l
}

// TestOneByteThatIsAnother turns each byte of right texts into others: what is read then is another clock, whose bytes those are. Of those with as many as 64 actors only some are turned about as a whole.
func TestOneByteThatIsAnother(t *testing.T) {
	for i, r := range rights() {
		from := 0
		if len(r.s) > 100 && i%10 > 0 {
			from = len(r.s) - 50
		}
		for at := from; at < len(r.s); at++ {
			for _, b := range otherBytes(r.s[at], len(r.s) > 100) {
				s := r.s[:at] + string([]byte{b}) + r.s[at+1:]
				wantPlain(t, s)
				if k, e := dcode.Decode(s); e == api.OK && s != r.s && alike(k, r.k) {
					t.Fatalf("%.60q and %.60q are both %#v", s, r.s, k)
				}
			}
		}
	}
}

// R4

// inside is a vector in the midst of a longer list, and that list: what is behind it would be told, were it read or written.
func inside(v []api.Entry) ([]api.Entry, []api.Entry) {
	l := append(slices.Clone(v), api.Entry{Actor: "z", Count: 77}, api.Entry{Actor: "zz", Count: 78})
	return l[:len(v)], l
}

// spoil writes over a list, and over what lies behind it in its memory.
func spoil(v []api.Entry) {
	v = v[:cap(v)]
	for i := range v {
		v[i] = api.Entry{Actor: "spoiled"}
	}
}

func TestWhatIsHandedInStaysAsItWas(t *testing.T) {
	var all []api.Clock
	for _, r := range rights() {
		all = append(all, r.k)
	}
	for _, f := range faults() {
		all = append(all, f.k)
	}
	for _, k := range all {
		want, e := dcode.Encode(k)
		v, whole := inside(k.Ctx)
		was := slices.Clone(whole)
		k.Ctx = v
		other, whole2 := inside(vec("b4 c1"))
		was2 := slices.Clone(whole2)
		b := dot(other, "b", 6)
		l := []api.Clock{b, k, b, clk("y1"), clk("y2")}
		wantEncoded(t, k, want, e)
		p := pen.New(100000)
		dcode.Put(p, l[:3]...)
		dcode.Below(k, b)
		dcode.Below(b, k)
		if !slices.Equal(whole, was) || !slices.Equal(whole2, was2) {
			t.Fatalf("%#v became %#v, %#v became %#v", was, whole, was2, whole2)
		}
		for i, x := range []api.Clock{b, k, b, clk("y1"), clk("y2")} {
			if !alike(l[i], x) {
				t.Fatalf("at %d: %#v became %#v", i, x, l[i])
			}
		}
		text, _ := p.End()
		spoil(whole)
		spoil(whole2)
		if again, _ := p.End(); again != text {
			t.Fatalf("the pen had %.60q, and has %.60q", text, again)
		}
	}
}

// TestWhatLiesBehindIsNotRead is of a row of clocks with one behind its length that isn't right.
func TestWhatLiesBehindIsNotRead(t *testing.T) {
	l := clks("a1", "+b1", "a0")
	p := pen.New(100)
	dcode.Put(p, l[:2]...)
	wantPen(t, p, "\x01\x01a\x01\x00\x00\x01\x01b\x01", 10, api.OK)
	v, _ := inside(vec("a1"))
	wantEncoded(t, dot(v, "z", 7), "\x01\x01a\x01\x01\x01z\x07", api.OK)
}

func TestWhatIsAnsweredMayBeWrittenOver(t *testing.T) {
	for _, r := range rights() {
		c := cursor.New(r.s + r.s + r.s)
		a, b := dcode.Take(c), dcode.Take(c)
		d, _ := dcode.Decode(r.s)
		spoil(a.Ctx)
		spoil(d.Ctx)
		again, _ := dcode.Decode(r.s)
		if !alike(b, r.k) || !alike(again, r.k) || !alike(dcode.Take(c), r.k) {
			t.Fatalf("of %.60q: %#v, %#v", r.s, b, again)
		}
		wantCursor(t, r.s, c, 3*len(r.s), api.OK)
	}
}

// TestTheSameAnswerEachTime asks the same many times.
func TestTheSameAnswerEachTime(t *testing.T) {
	k := dot(greatest(), "z", most)
	for range 100 {
		wantEncoded(t, k, greatestBytes()+"\x01\x01z"+mostBytes, api.OK)
		wantDecoded(t, greatestBytes()+"\x01\x01z"+mostBytes, k, api.OK)
		wantDecoded(t, "\x01\x01a\x02\x01\x01a\x01", api.Clock{}, api.ErrDot)
		wantBelow(t, bare(greatest()), k, true, api.OK)
	}
}
