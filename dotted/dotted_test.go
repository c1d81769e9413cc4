package dotted_test

import (
	"math"
	"slices"
	"strconv"
	"strings"
	"testing"

	"spence/api"
	"spence/dotted"
	"spence/vector"
)

const most = math.MaxUint64 // the greatest count

// vec is a vector of actors of one byte with their counts: "a1 c2".
func vec(s string) []api.Entry {
	var v []api.Entry
	for _, w := range strings.Fields(s) {
		n, err := strconv.ParseUint(w[1:], 10, 64)
		if err != nil {
			panic(err)
		}
		v = append(v, api.Entry{Actor: w[:1], Count: n})
	}
	return v
}

// many is a right vector of n actors, from the number from on: as many digits each, so that they rise; each count is 3.
func many(from, n int) []api.Entry {
	var v []api.Entry
	for i := range n {
		v = append(v, api.Entry{Actor: strconv.Itoa(1000 + from + i), Count: 3})
	}
	return v
}

// one is a vector of one entry.
func one(actor string, n uint64) []api.Entry {
	return []api.Entry{{Actor: actor, Count: n}}
}

// long is an actor of n bytes.
func long(n int) string {
	return strings.Repeat("x", n)
}

// with is a vector in which the entry at a place is another one.
func with(v []api.Entry, at int, e api.Entry) []api.Entry {
	l := slices.Clone(v)
	l[at] = e
	return l
}

// bare is a clock that isn't dotted.
func bare(v []api.Entry) api.Clock {
	return api.Clock{Ctx: v}
}

// dot is a dotted clock.
func dot(v []api.Entry, actor string, n uint64) api.Clock {
	return api.Clock{Ctx: v, Dotted: true, Dot: api.Entry{Actor: actor, Count: n}}
}

// stray is a clock that isn't dotted, and has a dot.
func stray(v []api.Entry, actor string, n uint64) api.Clock {
	return api.Clock{Ctx: v, Dot: api.Entry{Actor: actor, Count: n}}
}

// clk is a clock of actors of one byte: "a1 b2" isn't dotted, "a1 b2 +a3" has the dot a 3.
func clk(s string) api.Clock {
	v, d, dots := strings.Cut(s, "+")
	if !dots {
		return bare(vec(v))
	}
	e := vec(d)[0]
	return dot(vec(v), e.Actor, e.Count)
}

// clks are some clocks.
func clks(l ...string) []api.Clock {
	var out []api.Clock
	for _, s := range l {
		out = append(out, clk(s))
	}
	return out
}

// fault is a clock that isn't right, and why.
type fault struct {
	k api.Clock
	e api.Errno
}

// badVectors are vectors that aren't right, by each of layer 10's errors.
func badVectors() []struct {
	v []api.Entry
	e api.Errno
} {
	return []struct {
		v []api.Entry
		e api.Errno
	}{
		{many(0, 65), api.ErrLimit}, {many(0, 200), api.ErrLimit}, {make([]api.Entry, 65), api.ErrLimit},
		{one(long(33), 1), api.ErrLimit}, {one(long(1000), 1), api.ErrLimit}, {append(vec("a1"), one(long(33), 1)...), api.ErrLimit}, {with(many(0, 64), 63, one(long(33), 1)[0]), api.ErrLimit}, {one(long(33), 0), api.ErrLimit},
		{one("", 1), api.ErrEmpty}, {one("", 0), api.ErrEmpty}, {append(vec("a1"), one("", 1)...), api.ErrEmpty}, {with(many(0, 64), 0, api.Entry{}), api.ErrEmpty},
		{vec("a1 a1"), api.ErrOrder}, {vec("a1 a2"), api.ErrOrder}, {vec("b1 a1"), api.ErrOrder}, {vec("a1 c1 b1"), api.ErrOrder}, {vec("b1 a0"), api.ErrOrder}, {append(one("ab", 1), one("a", 1)...), api.ErrOrder}, {append(one("\xff", 1), one("a", 1)...), api.ErrOrder}, {with(many(0, 64), 63, many(62, 1)[0]), api.ErrOrder},
		{vec("a0"), api.ErrZero}, {vec("a1 b0"), api.ErrZero}, {vec("a0 b1"), api.ErrZero}, {vec("a0 a1"), api.ErrZero}, {with(many(0, 64), 63, api.Entry{Actor: "z"}), api.ErrZero},
	}
}

// faults are clocks with each of the errors, at all edges.
func faults() []fault {
	var l []fault
	for _, f := range badVectors() { // whatever the dot is
		for _, d := range []api.Entry{{}, {Actor: "a", Count: 1}, {Actor: "a", Count: 9}, {Actor: "a"}, {Count: 1}, {Actor: long(32), Count: most}, {Actor: long(33), Count: 1}} {
			l = append(l, fault{dot(f.v, d.Actor, d.Count), f.e}, fault{stray(f.v, d.Actor, d.Count), f.e})
		}
	}
	return append(l, []fault{
		// the dot's actor is too long
		{dot(nil, long(33), 1), api.ErrLimit}, {dot(nil, long(34), 1), api.ErrLimit}, {dot(nil, long(5000), 1), api.ErrLimit}, {dot(vec("a1"), long(33), 1), api.ErrLimit}, {dot(many(0, 64), long(33), most), api.ErrLimit}, {dot(one(long(32), 1), long(33), 2), api.ErrLimit}, {dot(nil, strings.Repeat("\x00", 33), 1), api.ErrLimit},
		// it is empty
		{dot(nil, "", 1), api.ErrEmpty}, {dot(nil, "", most), api.ErrEmpty}, {dot(vec("a1"), "", 1), api.ErrEmpty}, {dot(vec("a1"), "", 2), api.ErrEmpty}, {dot(many(0, 64), "", 4), api.ErrEmpty},
		// the dot's count is 0
		{dot(nil, "a", 0), api.ErrZero}, {dot(vec("b1"), "a", 0), api.ErrZero}, {dot(nil, long(32), 0), api.ErrZero}, {dot(many(0, 64), "z", 0), api.ErrZero},
		// it isn't above what the vector knows
		{dot(vec("a1"), "a", 1), api.ErrDot}, {dot(vec("a5"), "a", 1), api.ErrDot}, {dot(vec("a5"), "a", 4), api.ErrDot}, {dot(vec("a5"), "a", 5), api.ErrDot}, {dot(vec("a1 b5 c9"), "b", 5), api.ErrDot}, {dot(vec("a1 b5 c9"), "c", 8), api.ErrDot}, {dot(vec("a9 b1"), "a", 2), api.ErrDot}, {dot(one("a", most), "a", most), api.ErrDot}, {dot(one("a", most), "a", 1), api.ErrDot}, {dot(one("a", most), "a", most-1), api.ErrDot}, {dot(one("a", 1<<63), "a", 1<<63-1), api.ErrDot}, {dot(one(long(32), 2), long(32), 2), api.ErrDot}, {dot(one("\x00", 2), "\x00", 2), api.ErrDot}, {dot(many(0, 64), "1000", 3), api.ErrDot}, {dot(many(0, 64), "1063", 3), api.ErrDot}, {dot(many(0, 64), "1031", 1), api.ErrDot},
		// two errors of a dot
		{dot(nil, long(33), 0), api.ErrLimit}, {dot(vec("a1"), long(33), 0), api.ErrLimit}, {dot(nil, "", 0), api.ErrEmpty}, {dot(vec("a1"), "", 0), api.ErrEmpty}, {dot([]api.Entry{}, "", 0), api.ErrEmpty}, {dot(vec("a1"), "a", 0), api.ErrZero}, {dot(one("a", most), "a", 0), api.ErrZero}, {dot(many(0, 64), "1063", 0), api.ErrZero},
		// a dot that isn't zero of a clock that isn't dotted
		{stray(nil, "a", 1), api.ErrArg}, {stray(nil, "a", 0), api.ErrArg}, {stray(nil, "", 1), api.ErrArg}, {stray(nil, "", most), api.ErrArg}, {stray(nil, "", 1<<32), api.ErrArg}, {stray(nil, "\x00", 0), api.ErrArg}, {stray(nil, long(32), 1), api.ErrArg}, {stray(nil, long(33), 1), api.ErrArg}, {stray(nil, long(33), 0), api.ErrArg}, {stray(vec("a1"), "a", 1), api.ErrArg}, {stray(vec("a1"), "a", 2), api.ErrArg}, {stray(vec("a1"), "a", 0), api.ErrArg}, {stray(vec("a1"), "b", 1), api.ErrArg}, {stray(vec("a1"), "", 1), api.ErrArg}, {stray(many(0, 64), "z", 1), api.ErrArg}, {stray(many(0, 64), "1063", 3), api.ErrArg},
	}...)
}

// rights are right clocks, at all edges.
func rights() []api.Clock {
	l := clks("", "+a1", "+a2", "+a9", "a1", "a2", "a1 +a2", "a1 +a3", "a2 +a3", "a2 +a9", "a3", "b1", "+b1", "a1 b1", "a1 +b1", "b1 +a1", "a1 +b2", "a1 b1 +a2", "a1 b1 +b2", "a1 b2 c3", "a1 b2 c3 +b3", "a1 b2 c3 +b4", "a1 b2 c3 +d1", "b2 d1 +c1", "b2 d1 +a1", "+\x001", "+\xff1", "\x001 \xff1 +\x801")
	return append(l,
		bare([]api.Entry{}), dot([]api.Entry{}, "a", 1),
		dot(nil, long(1), 1), dot(nil, long(31), 1), dot(nil, long(32), 1), dot(one(long(32), 1), long(32), 2), dot(one(long(32), 1), long(31), 1), bare(one(long(32), 1)), dot(vec("a5"), "aa", 1), dot(one("aa", 5), "a", 1), dot(vec("a5"), "a\x00", 1), dot(vec("a5"), "A", 1), dot(nil, strings.Repeat("\xff", 32), 1),
		dot(nil, "a", most), dot(vec("a1"), "a", most), dot(one("a", most-1), "a", most), dot(one("a", most-2), "a", most), dot(one("a", most), "b", 1), dot(one("a", most), "b", most), bare(one("a", most)), bare(one("a", most-1)), dot(one("a", 1<<63-1), "a", 1<<63), dot(nil, "a", 1<<63), bare(one("a", 1<<63)),
		bare(many(0, 63)), bare(many(0, 64)), bare(many(1, 64)), dot(many(0, 63), "z", 1), dot(many(0, 64), "z", 1), dot(many(0, 64), "1", 7), dot(many(0, 64), "1000", 4), dot(many(0, 64), "1063", 4), dot(many(0, 64), "1063", 5), dot(many(0, 64), "1031", most), dot(many(0, 64), "1064", 3), dot(many(0, 63), "1063", 1),
	)
}

// wantCeiling holds a ceiling against a vector.
func wantCeiling(t *testing.T, want []api.Entry, l ...api.Clock) {
	t.Helper()
	if v, e := dotted.Ceiling(l...); !slices.Equal(v, want) || e != api.OK {
		t.Fatalf("of %#v: %#v, error %d; not %#v", l, v, e, want)
	}
}

// wantNoCeiling holds a ceiling against an error.
func wantNoCeiling(t *testing.T, want api.Errno, l ...api.Clock) {
	t.Helper()
	if v, e := dotted.Ceiling(l...); len(v) != 0 || e != want {
		t.Fatalf("of %#v: %#v, error %d; not error %d", l, v, e, want)
	}
}

// wantKeep holds the places that are kept against others.
func wantKeep(t *testing.T, want []int, l ...api.Clock) {
	t.Helper()
	if places, e := dotted.Keep(l...); !slices.Equal(places, want) || e != api.OK {
		t.Fatalf("of %#v: %v, error %d; not %v", l, places, e, want)
	}
}

// wantNoKeep holds the places that are kept against ErrArg.
func wantNoKeep(t *testing.T, l ...api.Clock) {
	t.Helper()
	if places, e := dotted.Keep(l...); len(places) != 0 || e != api.ErrArg {
		t.Fatalf("of %#v: %v, error %d; not error %d", l, places, e, api.ErrArg)
	}
}

// wantCovers holds Covers, both ways, against what it should tell.
func wantCovers(t *testing.T, a, b api.Clock, there, back bool) {
	t.Helper()
	if dotted.Covers(a, b) != there {
		t.Errorf("%#v covers %#v: %v", a, b, !there)
	}
	if dotted.Covers(b, a) != back {
		t.Errorf("%#v covers %#v: %v", b, a, !back)
	}
}

// places are those from 0 on, as many as n.
func places(n int) []int {
	var l []int
	for i := range n {
		l = append(l, i)
	}
	return l
}

// orders are all orders of some clocks.
func orders(l []api.Clock) [][]api.Clock {
	if len(l) < 2 {
		return [][]api.Clock{slices.Clone(l)}
	}
	var all [][]api.Clock
	for i := range l {
		for _, rest := range orders(slices.Delete(slices.Clone(l), i, i+1)) {
			all = append(all, append([]api.Clock{l[i]}, rest...))
		}
	}
	return all
}

// P12.1

func TestCheckOfRightOnes(t *testing.T) {
	for _, k := range rights() {
		if e := dotted.Check(k); e != api.OK {
			t.Errorf("of %#v: error %d", k, e)
		}
	}
}

func TestCheckOfFaults(t *testing.T) {
	for _, f := range faults() {
		if e := dotted.Check(f.k); e != f.e {
			t.Errorf("of %#v: error %d, not %d", f.k, e, f.e)
		}
	}
}

func TestCheckOfDotsOfAnyLength(t *testing.T) {
	for n := range 100 {
		want := api.OK
		switch {
		case n == 0:
			want = api.ErrEmpty
		case n > 32:
			want = api.ErrLimit
		}
		for _, v := range [][]api.Entry{nil, vec("a1"), one(long(max(1, min(n, 32))), 6), many(0, 64)} {
			if e := dotted.Check(dot(v, long(n), 7)); e != want {
				t.Errorf("%d bytes, with %d entries: error %d, not %d", n, len(v), e, want)
			}
		}
	}
}

// TestCheckOfDotsAtEachEntry is of dots of each actor of a full vector, around its count.
func TestCheckOfDotsAtEachEntry(t *testing.T) {
	for at := range 64 {
		v := many(0, 64)
		v[at].Count = 5
		for n, want := range []api.Errno{api.ErrZero, api.ErrDot, api.ErrDot, api.ErrDot, api.ErrDot, api.ErrDot, api.OK, api.OK} {
			if e := dotted.Check(dot(v, v[at].Actor, uint64(n))); e != want {
				t.Errorf("%d at %d: error %d, not %d", n, at, e, want)
			}
		}
	}
}

// TestSame is of clocks that are unlike in one part, and of clocks that know the same but are written otherwise.
func TestSame(t *testing.T) {
	for _, c := range []struct {
		a, b api.Clock
		same bool
	}{
		{api.Clock{}, api.Clock{}, true}, {bare(nil), bare([]api.Entry{}), true}, {dot(nil, "a", 1), dot([]api.Entry{}, "a", 1), true}, {clk("a1 b2 +c3"), clk("a1 b2 +c3"), true}, {dot(many(0, 64), "z", most), dot(many(0, 64), "z", most), true},
		// the vector
		{clk("a1"), clk("a2"), false}, {clk("a1"), clk("b1"), false}, {clk("a1"), clk(""), false}, {clk("a1 b1"), clk("a1"), false}, {clk("a1 b1"), clk("a1 b2"), false}, {clk("a1 +c1"), clk("a2 +c1"), false}, {clk("a1 +c1"), clk("+c1"), false}, {clk("a1 +c1"), clk("b1 +c1"), false}, {bare(many(0, 64)), bare(many(0, 63)), false},
		// the dot
		{clk("+a1"), clk("+a2"), false}, {clk("+a1"), clk("+b1"), false}, {clk("+a1"), dot(nil, "aa", 1), false}, {clk("a1 +b1"), clk("a1 +c1"), false}, {clk("a1 +b1"), clk("a1 +b2"), false}, {dot(nil, "a", most), dot(nil, "a", most-1), false}, {dot(nil, "a", 1<<32), dot(nil, "a", 1), false},
		// whether there is one
		{clk("+a1"), clk(""), false}, {clk("a1 +b1"), clk("a1"), false}, {clk("+a1"), stray(nil, "a", 1), false}, {api.Clock{}, api.Clock{Dotted: true}, false}, {clk("a1"), dot(vec("a1"), "", 0), false},
		// those that know the same
		{clk("a1"), clk("+a1"), false}, {clk("a2 +a3"), clk("a3"), false}, {clk("a1 +b1"), clk("a1 b1"), false}, {clk("a1 +b1"), clk("b1 +a1"), false},
		// what isn't right
		{clk("b1 a1"), clk("b1 a1"), true}, {clk("b1 a1"), clk("a1 b1"), false}, {clk("a0"), clk("a0"), true}, {clk("a0"), clk(""), false}, {bare(make([]api.Entry, 3)), bare(make([]api.Entry, 3)), true}, {bare(make([]api.Entry, 3)), bare(make([]api.Entry, 4)), false}, {bare(many(0, 200)), bare(many(0, 200)), true}, {bare(many(0, 200)), bare(many(0, 199)), false},
		{api.Clock{Dotted: true}, api.Clock{Dotted: true}, true}, {clk("a5 +a1"), clk("a5 +a1"), true}, {clk("a5 +a1"), clk("a5 +a2"), false}, {dot(nil, long(33), 1), dot(nil, long(33), 1), true}, {dot(nil, long(33), 1), dot(nil, long(34), 1), false}, {dot(nil, "", 1), dot(nil, "", 2), false}, {stray(nil, "a", 1), stray(nil, "a", 1), true}, {stray(nil, "a", 1), stray(nil, "a", 2), false}, {stray(nil, "a", 1), stray(nil, "b", 1), false}, {stray(nil, "a", 0), stray(nil, "", 0), false}, {stray(nil, "", 1), api.Clock{}, false}, {stray(vec("a1"), "a", 1), clk("a1"), false},
	} {
		if dotted.Same(c.a, c.b) != c.same || dotted.Same(c.b, c.a) != c.same {
			t.Errorf("%#v and %#v: %v, %v; not %v", c.a, c.b, dotted.Same(c.a, c.b), dotted.Same(c.b, c.a), c.same)
		}
	}
}

func TestPlain(t *testing.T) {
	lists := [][]api.Entry{nil, {}, vec("a1"), vec("a1 b2 c3"), many(0, 64), one("a", most), one(long(32), 1)}
	for _, f := range badVectors() {
		lists = append(lists, f.v)
	}
	for _, v := range lists {
		k := dotted.Plain(v)
		if !slices.Equal(k.Ctx, v) || k.Dotted || k.Dot != (api.Entry{}) {
			t.Errorf("of %#v: %#v", v, k)
		}
		if dotted.Check(k) != vector.Check(v) || !dotted.Same(k, bare(v)) {
			t.Errorf("of %#v: %#v, error %d", v, k, dotted.Check(k))
		}
	}
}

// P12.2

func TestKnows(t *testing.T) {
	for _, c := range []struct {
		k     api.Clock
		actor string
		n     uint64
		want  bool
	}{
		// of none
		{clk(""), "", 0, false}, {clk(""), "a", 0, false}, {clk(""), "a", 1, false}, {clk(""), "", 1, false}, {clk(""), "a", most, false},
		// the event 0
		{clk("a1"), "a", 0, false}, {clk("a1 +a2"), "a", 0, false}, {clk("+a1"), "a", 0, false}, {clk("a1"), "", 0, false}, {clk("a1"), "b", 0, false}, {clk("+a1"), "", 0, false}, {bare(one("a", most)), "a", 0, false},
		// around what the vector knows
		{clk("a3"), "a", 1, true}, {clk("a3"), "a", 2, true}, {clk("a3"), "a", 3, true}, {clk("a3"), "a", 4, false}, {clk("a3"), "a", most, false}, {clk("a1 b5 c9"), "b", 5, true}, {clk("a1 b5 c9"), "b", 6, false}, {clk("a1 b5 c9"), "a", 2, false}, {clk("a1 b5 c9"), "c", 9, true}, {clk("a1 b5 c9"), "c", 10, false},
		// the dot, and the events between both
		{clk("a1 +a3"), "a", 1, true}, {clk("a1 +a3"), "a", 2, false}, {clk("a1 +a3"), "a", 3, true}, {clk("a1 +a3"), "a", 4, false}, {clk("+a9"), "a", 9, true}, {clk("+a9"), "a", 1, false}, {clk("+a9"), "a", 8, false}, {clk("+a9"), "a", 10, false}, {clk("a1 +a2"), "a", 2, true}, {clk("a1 +a2"), "a", 3, false}, {clk("+a1"), "a", 1, true}, {clk("+a1"), "a", 2, false},
		// another actor
		{clk("a3"), "b", 1, false}, {clk("a3"), "", 1, false}, {clk("a3"), "aa", 1, false}, {clk("a3"), "A", 1, false}, {bare(one("aa", 3)), "a", 1, false}, {clk("+a3"), "b", 3, false}, {clk("+a3"), "", 3, false}, {clk("+a3"), "aa", 3, false}, {dot(nil, "aa", 3), "a", 3, false}, {clk("a5 +b3"), "a", 3, true}, {clk("a5 +b3"), "b", 3, true}, {clk("a5 +b3"), "b", 2, false}, {clk("a5 +b7"), "a", 7, false}, {clk("a5 +b3"), "c", 3, false}, {clk("a3"), long(33), 1, false}, {clk("+a3"), long(5000), 3, false},
		// the greatest one
		{bare(one("a", most)), "a", most, true}, {bare(one("a", most)), "a", 1, true}, {bare(one("a", most-1)), "a", most, false}, {dot(nil, "a", most), "a", most, true}, {dot(nil, "a", most), "a", most - 1, false}, {dot(nil, "a", most), "a", 1, false}, {dot(one("a", most-2), "a", most), "a", most - 1, false}, {dot(one("a", most-2), "a", most), "a", most - 2, true}, {dot(one("a", most-1), "a", most), "a", most, true}, {bare(one("a", 1<<63)), "a", 1<<63 - 1, true}, {bare(one("a", 1<<63)), "a", 1<<63 + 1, false}, {dot(one("a", most), "b", 1), "b", 1, true},
		// a full vector
		{dot(many(0, 64), "z", 1), "z", 1, true}, {dot(many(0, 64), "z", 2), "z", 1, false}, {dot(many(0, 64), "z", 1), "1063", 3, true}, {dot(many(0, 64), "z", 1), "1063", 4, false}, {dot(many(0, 64), "1063", 5), "1063", 5, true}, {dot(many(0, 64), "1063", 5), "1063", 4, false},
		// what isn't right
		{clk("b1 a1"), "a", 1, false}, {clk("b1 a1"), "b", 1, false}, {clk("a1 a2"), "a", 1, false}, {clk("a1 b0"), "a", 1, false}, {bare(one("", 1)), "", 1, false}, {bare(one(long(33), 1)), long(33), 1, false}, {bare(many(0, 65)), "1000", 1, false}, {dot(vec("a5"), "a", 5), "a", 5, false}, {dot(vec("a5"), "a", 0), "a", 5, false}, {dot(nil, "", 1), "", 1, false}, {dot(nil, long(33), 1), long(33), 1, false}, {dot(vec("a5"), "", 1), "a", 5, false}, {stray(nil, "a", 1), "a", 1, false}, {stray(vec("a5"), "a", 6), "a", 5, false}, {stray(vec("a5"), "", 1), "a", 1, false},
	} {
		if dotted.Knows(c.k, c.actor, c.n) != c.want {
			t.Errorf("%#v knows %.50q %d: %v", c.k, c.actor, c.n, !c.want)
		}
	}
}

func TestNothingIsKnownByWhatIsNotRight(t *testing.T) {
	for _, f := range faults() {
		for _, e := range append([]api.Entry{{}, {Actor: "a", Count: 1}, {Actor: "a"}, {Count: 1}, f.k.Dot}, f.k.Ctx...) {
			if dotted.Knows(f.k, e.Actor, e.Count) {
				t.Errorf("%#v knows %#v", f.k, e)
			}
		}
	}
}

func TestTheExample(t *testing.T) {
	k := clk("a1 +a3")
	for n, want := range []bool{false, true, false, true, false} {
		if dotted.Knows(k, "a", uint64(n)) != want {
			t.Errorf("event %d: %v", n, !want)
		}
	}
	wantCeiling(t, vec("a3"), k)
}

func TestEachCoversItself(t *testing.T) {
	for _, k := range rights() {
		wantCovers(t, k, k, true, true)
		wantCovers(t, k, api.Clock{}, true, len(k.Ctx) == 0 && !k.Dotted)
	}
}

func TestCovers(t *testing.T) {
	for _, c := range []struct {
		a, b        string
		there, back bool
	}{
		// without dots
		{"", "", true, true}, {"a1", "", true, false}, {"a2", "a1", true, false}, {"a1 b1", "a1", true, false}, {"a1 b1", "b1", true, false}, {"a1", "b1", false, false}, {"a2 b1", "a1 b2", false, false}, {"a1 b1", "a2", false, false},
		// those that know the same, written otherwise
		{"a1", "+a1", true, true}, {"a2 +a3", "a3", true, true}, {"a1 +b1", "a1 b1", true, true}, {"b1 +a1", "a1 b1", true, true}, {"a1 +b1", "b1 +a1", true, true}, {"a2 b2 +b3", "a1 b3 +a2", true, true}, {"a1 b1 c1", "a1 c1 +b1", true, true},
		// a dot that the vector knows
		{"a3", "+a1", true, false}, {"a3", "+a2", true, false}, {"a3", "+a3", true, false}, {"a3", "a1 +a3", true, false}, {"a3 b1", "a1 +a3", true, false}, {"a3 b1", "a1 b1 +a2", true, false}, {"b9", "+b4", true, false},
		// one that it doesn't
		{"a3", "+a4", false, false}, {"a3", "a3 +a4", false, true}, {"a3", "a1 +a4", false, false}, {"a3", "a2 +a4", false, false}, {"a3", "+b1", false, false}, {"a3", "a3 +b1", false, true}, {"a3", "a3 +b2", false, true}, {"", "+a1", false, true}, {"", "+a2", false, true},
		// a dot that the other one's dot is
		{"a1 +a3", "+a3", true, false}, {"a1 b1 +a3", "a1 +a3", true, false}, {"+a3", "+a3", true, true}, {"a1 +a9", "+a9", true, false},
		// one that it isn't
		{"+a3", "+a2", false, false}, {"+a3", "+a1", false, false}, {"a1 +a3", "a1 +a2", false, false}, {"a1 +a4", "a1 +a3", false, false}, {"a1 +a3", "a1 +b3", false, false}, {"+a3", "+b3", false, false},
		// the events between both are not known
		{"a1 +a3", "a2", false, false}, {"a1 +a3", "a3", false, true}, {"a1 +a3", "a1 +a2", false, false}, {"a1 +a3", "a1", true, false}, {"+a2", "a1", false, false}, {"+a2", "a2", false, true}, {"+a9", "a8", false, false}, {"a2 +a4", "a3", false, false}, {"a2 +a4", "a4", false, true},
		// a dot that stands right behind its vector
		{"a2 +a3", "a2", true, false}, {"a2 +a3", "a4", false, true}, {"a2 +a3", "+a3", true, false}, {"a2 +a3", "a1 +a3", true, false}, {"a2 +a3", "a3 +a4", false, true}, {"a2 +a3", "a2 +a4", false, false}, {"a2 b1 +a3", "a3 +b1", true, true}, {"a2 +a3", "a3 +b1", false, true}, {"a2 +a3", "a1 +a2", true, false}, {"a1 +a2", "+a2", true, false}, {"+a1", "a1 +a2", false, true}, {"a2 b7 +b8", "a2 b8", true, true}, {"a2 b7 +b8", "a3 b8", false, true},
		// many actors
		{"a1 b2 c3", "a1 b2 +c3", true, false}, {"a1 b2 c3 +d1", "a1 b2 c3 d1", true, true}, {"a1 b2 c3 +d2", "a1 b2 c3 d2", false, true}, {"a1 b2 c3 +d2", "a1 b2 c3 d1", false, false}, {"a1 c3 +b1", "b1", true, false}, {"a1 c3 +b1", "b2", false, false},
	} {
		wantCovers(t, clk(c.a), clk(c.b), c.there, c.back)
	}
}

func TestCoversAtTheGreatestCount(t *testing.T) {
	wantCovers(t, bare(one("a", most)), dot(one("a", most-1), "a", most), true, true)
	wantCovers(t, bare(one("a", most)), dot(one("a", most-2), "a", most), true, false)
	wantCovers(t, bare(one("a", most)), dot(nil, "a", most), true, false)
	wantCovers(t, bare(one("a", most-1)), dot(nil, "a", most), false, false)
	wantCovers(t, bare(one("a", most)), clk("a1 +b1"), false, false)
	wantCovers(t, dot(one("a", most), "b", 1), bare(one("a", most)), true, false)
	wantCovers(t, dot(one("a", most), "b", most), dot(nil, "b", most), true, false)
	wantCovers(t, dot(one("a", 1<<63-1), "a", 1<<63), bare(one("a", 1<<63)), true, true)
	wantCovers(t, dot(one("a", 1<<63-2), "a", 1<<63), bare(one("a", 1<<63-1)), false, false)
}

// TestCoversOfFullVectors is of clocks whose ceiling would have too many entries.
func TestCoversOfFullVectors(t *testing.T) {
	full := bare(many(0, 64))
	wantCovers(t, dot(many(0, 64), "z", 1), full, true, false)
	wantCovers(t, dot(many(0, 64), "z", 1), bare(vec("z1")), true, false)
	wantCovers(t, dot(many(0, 64), "z", 2), bare(vec("z1")), false, false)
	wantCovers(t, dot(many(0, 64), "z", 1), dot(many(0, 64), "y", 1), false, false)
	wantCovers(t, dot(many(0, 64), "z", 1), dot(many(0, 64), "z", 1), true, true)
	wantCovers(t, dot(many(0, 64), "1064", 1), dot(with(many(1, 64), 63, api.Entry{Actor: "1064", Count: 1}), "1000", 1), true, false)
	wantCovers(t, dot(many(0, 64), "1064", 3), bare(many(1, 64)), false, false)
	for i := range 64 {
		e := many(i, 1)[0]
		less := with(many(0, 64), i, api.Entry{Actor: e.Actor, Count: 2})
		wantCovers(t, dot(less, e.Actor, 3), full, true, true)
		wantCovers(t, dot(less, e.Actor, 4), full, false, false)
		wantCovers(t, bare(less), full, false, true)
		wantCovers(t, dot(slices.Delete(many(0, 64), i, i+1), e.Actor, 3), full, false, true)
		wantCovers(t, full, dot(nil, e.Actor, 3), true, false)
		wantCovers(t, full, dot(nil, e.Actor, 4), false, false)
	}
}

func TestCoversOfWhatIsNotRight(t *testing.T) {
	for _, f := range faults() {
		wantCovers(t, f.k, f.k, false, false)
		for _, k := range rights() {
			wantCovers(t, f.k, k, false, false)
		}
		wantCovers(t, f.k, faults()[0].k, false, false)
	}
}

// P12.3

func TestCeiling(t *testing.T) {
	wantCeiling(t, nil)
	wantCeiling(t, nil, clk(""))
	wantCeiling(t, nil, clk(""), bare([]api.Entry{}), clk(""))
	// of one
	wantCeiling(t, vec("a2"), clk("a2"))
	wantCeiling(t, vec("a3"), clk("a2 +a3"))
	wantCeiling(t, vec("a9"), clk("a2 +a9"))
	wantCeiling(t, vec("a1"), clk("+a1"))
	wantCeiling(t, vec("a7"), clk("+a7"))
	wantCeiling(t, vec("a2 b1"), clk("a2 +b1"))
	wantCeiling(t, vec("a5 b2"), clk("b2 +a5"))
	wantCeiling(t, vec("a1 b7 c3"), clk("a1 c3 +b7"))
	wantCeiling(t, vec("a1 b7 c3"), clk("a1 b2 c3 +b7"))
	// of many
	wantCeiling(t, vec("a4"), clk("a2 +a4"), clk("a3"))
	wantCeiling(t, vec("a4"), clk("a4"), clk("a2 +a3"))
	wantCeiling(t, vec("a4"), clk("a2 +a3"), clk("+a4"))
	wantCeiling(t, vec("a4"), clk("+a4"), clk("+a3"), clk("+a1"))
	wantCeiling(t, vec("a2 b3 c4"), clk("+c4"), clk("+a2"), clk("+b3"))
	wantCeiling(t, vec("a2 b5 c1 d9"), clk("b2 +a2"), clk(""), clk("c1 +b5"), clk("a1 b4"), clk("+d9"), clk("d3"))
	wantCeiling(t, append(one("a", 1), one("aa", 1)...), dot(one("a", 1), "aa", 1))
	wantCeiling(t, append(append(one("\x7f", 1), one("\x80", 1)...), one("\xff", 1)...), clk("+\xff1"), dot(one("\x80", 1), "\x7f", 1))
	// the greatest counts
	wantCeiling(t, one("a", most), dot(one("a", most-1), "a", most), clk("a1"))
	wantCeiling(t, one("a", most), dot(nil, "a", most), bare(one("a", most-1)))
	wantCeiling(t, one("a", 1<<63), dot(nil, "a", 1<<63-1), bare(one("a", 1<<63)))
}

func TestCeilingOfOneAndOfTheSame(t *testing.T) {
	for _, k := range rights() {
		if len(k.Ctx) == 64 && k.Dotted && vector.Count(k.Ctx, k.Dot.Actor) == 0 {
			wantNoCeiling(t, api.ErrLimit, k)
			continue
		}
		want := slices.Clone(k.Ctx)
		if k.Dotted { // the dot's entry is laid in at its place
			want = slices.DeleteFunc(want, func(e api.Entry) bool { return e.Actor == k.Dot.Actor })
			at, _ := slices.BinarySearchFunc(want, k.Dot.Actor, func(e api.Entry, s string) int { return strings.Compare(e.Actor, s) })
			want = slices.Insert(want, at, k.Dot)
		}
		wantCeiling(t, want, k)
		wantCeiling(t, want, k, k)
		wantCeiling(t, want, k, api.Clock{}, bare(want), k)
	}
}

func TestCeilingUpToTheLimit(t *testing.T) {
	wantCeiling(t, many(0, 64), bare(many(0, 64)))
	wantCeiling(t, append(many(0, 63), vec("z1")...), dot(many(0, 63), "z", 1))
	wantCeiling(t, append(vec("01"), many(0, 63)...), dot(many(0, 63), "0", 1))
	wantCeiling(t, with(many(0, 64), 63, api.Entry{Actor: "1063", Count: 9}), dot(many(0, 64), "1063", 9))
	wantCeiling(t, many(0, 64), dot(many(0, 63), "1063", 3), dot(many(1, 63), "1000", 3))
	wantCeiling(t, many(0, 64), bare(many(0, 32)), bare(many(32, 32)))
	wantNoCeiling(t, api.ErrLimit, dot(many(0, 64), "z", 1))
	wantNoCeiling(t, api.ErrLimit, dot(many(0, 64), "0", most))
	wantNoCeiling(t, api.ErrLimit, bare(many(0, 64)), clk("+z1"))
	wantNoCeiling(t, api.ErrLimit, clk("+z1"), bare(many(0, 64)))
	wantNoCeiling(t, api.ErrLimit, bare(many(0, 64)), clk("z1"))
	wantNoCeiling(t, api.ErrLimit, bare(many(0, 33)), bare(many(33, 32)))
	wantNoCeiling(t, api.ErrLimit, dot(many(0, 63), "y", 1), dot(many(0, 63), "z", 1))
	wantNoCeiling(t, api.ErrLimit, clk(""), dot(many(0, 64), "z", 1), clk(""))
	var dots []api.Clock
	for i := range 64 {
		dots = append(dots, dot(nil, many(63-i, 1)[0].Actor, 3))
	}
	wantCeiling(t, many(0, 64), dots...)
	wantCeiling(t, many(0, 64), append(slices.Clone(dots), dots...)...)
	wantNoCeiling(t, api.ErrLimit, append(slices.Clone(dots), clk("+z1"))...)
	wantNoCeiling(t, api.ErrLimit, append(clks("z1"), dots...)...)
}

// TestCeilingWithOneThatIsNotRight has it at each place, also where there would be too many entries.
func TestCeilingWithOneThatIsNotRight(t *testing.T) {
	around := []api.Clock{clk("a1 +b2"), clk(""), bare(many(0, 30)), clk("+a3")}
	full := []api.Clock{dot(many(0, 64), "z", 1), bare(many(64, 64))}
	for _, f := range faults() {
		wantNoCeiling(t, api.ErrArg, f.k)
		wantNoCeiling(t, api.ErrArg, f.k, f.k)
		for at := range len(around) + 1 {
			wantNoCeiling(t, api.ErrArg, slices.Insert(slices.Clone(around), at, f.k)...)
		}
		for at := range len(full) + 1 {
			wantNoCeiling(t, api.ErrArg, slices.Insert(slices.Clone(full), at, f.k)...)
		}
	}
}

func TestKeep(t *testing.T) {
	wantKeep(t, nil)
	for _, k := range rights() {
		wantKeep(t, []int{0}, k)
		wantKeep(t, []int{0}, k, k)
		wantKeep(t, []int{0}, k, k, k, k, k)
	}
	// one covers the other
	wantKeep(t, []int{0}, clks("a2", "a1")...)
	wantKeep(t, []int{1}, clks("a1", "a2")...)
	wantKeep(t, []int{1}, clks("", "+a1")...)
	wantKeep(t, []int{0}, clks("+a1", "")...)
	wantKeep(t, []int{1}, clks("+a3", "a1 +a3")...)
	wantKeep(t, []int{1}, clks("a1 +a3", "a3")...)
	wantKeep(t, []int{0}, clks("a3", "a1 +a3")...)
	wantKeep(t, []int{2}, clks("a1", "b1", "a1 b1")...)
	wantKeep(t, []int{1}, clks("a1", "a1 +b1", "b1")...)
	// those that are apart
	wantKeep(t, []int{0, 1}, clks("a1", "b1")...)
	wantKeep(t, []int{0, 1}, clks("a1 +a3", "a2")...)
	wantKeep(t, []int{0, 1, 2}, clks("+a1", "+a2", "+a3")...)
	wantKeep(t, []int{0, 1, 2, 3}, clks("a2 b1", "a1 b2", "a1 b1 +a3", "c1")...)
	// the example of the stage, and mixed ones
	wantKeep(t, []int{0, 2}, clks("a2 +a3", "a3", "a2 +a4", "a1")...)
	wantKeep(t, []int{1, 3}, clks("a1", "a2", "b1", "b2", "a2", "b1")...)
	wantKeep(t, []int{0, 3}, clks("a2", "a1", "", "+b3", "+a1", "+a2")...)
	wantKeep(t, []int{2, 5}, clks("a1", "+a2", "a2", "+b2", "b1", "b2", "a1 +a2", "b1 +b2")...)
}

// TestKeepOfThoseThatKnowTheSame keeps the first, however they are written.
func TestKeepOfThoseThatKnowTheSame(t *testing.T) {
	for _, l := range [][]api.Clock{clks("a1", "+a1"), clks("a2 +a3", "a3", "a2 +a3"), clks("a1 b1", "a1 +b1", "b1 +a1", "a1 b1"), clks("a2 b3 c1", "a1 b3 c1 +a2", "a2 b2 c1 +b3", "a2 b3 +c1")} {
		for _, row := range orders(l) {
			wantKeep(t, []int{0}, row...)
			wantKeep(t, []int{len(row)}, append(slices.Clone(row), clk("a9 b9 c9"))...)
			wantKeep(t, []int{0, 1}, append(clks("+z7"), row...)...)
			wantKeep(t, []int{0, len(row)}, append(slices.Clone(row), clk("+z7"))...)
		}
	}
	wantKeep(t, []int{0, 1}, clks("a1", "b1", "+a1", "+b1", "a1", "b1")...)
	wantKeep(t, []int{0, 1}, dot(many(0, 64), "1064", 3), dot(many(1, 64), "1000", 4))
	wantKeep(t, []int{2}, bare(many(0, 64)), dot(with(many(0, 64), 7, api.Entry{Actor: "1007", Count: 2}), "z", 1), dot(many(0, 64), "z", 1))
}

// TestKeepOfARow is of clocks each of which covers the one ahead, in every order.
func TestKeepOfARow(t *testing.T) {
	for _, l := range [][]api.Clock{clks("", "+a2", "a1 +a2", "a2 +b2", "a2 b2"), clks("a1", "a2", "a2 +a4", "a4", "a4 +b1", "a4 b2"), {api.Clock{}, dot(nil, "a", most), dot(one("a", most-2), "a", most), bare(one("a", most)), dot(one("a", most), "b", most)}} {
		last := l[len(l)-1]
		for _, row := range orders(l) {
			at := slices.IndexFunc(row, func(k api.Clock) bool { return dotted.Same(k, last) })
			wantKeep(t, []int{at}, row...)
		}
	}
}

// TestKeepOfThoseThatAreApart is of clocks none of which covers another one, in every order.
func TestKeepOfThoseThatAreApart(t *testing.T) {
	for _, l := range [][]api.Clock{clks("a1", "b1", "c1", "d1"), clks("+a1", "+a2", "+a3", "+a4"), clks("a1 +a3", "a2", "a1 +a4", "b1 +a5"), {bare(many(0, 64)), bare(many(1, 64)), dot(many(2, 62), "z", 1), dot(nil, "1000", 4)}} {
		for _, row := range orders(l) {
			wantKeep(t, places(len(row)), row...)
		}
	}
}

func TestKeepOfManyHundred(t *testing.T) {
	var apart, rising, falling, same []api.Clock
	for i := range uint64(500) {
		apart = append(apart, dot(nil, "a", i+1))
		rising = append(rising, bare(one("a", i+1)))
		falling = append(falling, bare(one("a", 500-i)))
		same = append(same, clks("a1 +a2", "a2")[i%2])
	}
	wantKeep(t, places(500), apart...)
	wantKeep(t, []int{499}, rising...)
	wantKeep(t, []int{0}, falling...)
	wantKeep(t, []int{0}, same...)
	wantKeep(t, []int{500}, append(slices.Clone(apart), bare(one("a", 500)))...)
	wantKeep(t, []int{0}, append([]api.Clock{bare(one("a", 500))}, apart...)...)
	wantNoKeep(t, append(slices.Clone(apart), clk("a1 +a1"))...)
}

// TestKeepWithOneThatIsNotRight has it at each place.
func TestKeepWithOneThatIsNotRight(t *testing.T) {
	around := clks("a1 +b2", "", "a1 b2", "+a3")
	for _, f := range faults() {
		wantNoKeep(t, f.k)
		wantNoKeep(t, f.k, f.k)
		for at := range len(around) + 1 {
			wantNoKeep(t, slices.Insert(slices.Clone(around), at, f.k)...)
		}
	}
}

// P12.4

// wantKept holds what P12.4 says of right clocks.
func wantKept(t *testing.T, l ...api.Clock) {
	t.Helper()
	kept, e := dotted.Keep(l...)
	if e != api.OK || !slices.IsSorted(kept) {
		t.Fatalf("of %#v: %v, error %d", l, kept, e)
	}
	for i := range l {
		covered := slices.ContainsFunc(kept, func(j int) bool { return j != i && dotted.Covers(l[j], l[i]) })
		if covered == slices.Contains(kept, i) {
			t.Fatalf("of %#v: %v; %d is covered: %v", l, kept, i, covered)
		}
	}
}

func TestWhatIsNotKeptIsCoveredByOneThatIs(t *testing.T) {
	all := rights()
	wantKept(t, all...)
	for i := range all {
		wantKept(t, slices.Concat(all[i:], all[:i])...)
		for j := range all {
			wantKept(t, all[i], all[j])
			wantKept(t, all[i], all[j], all[(i+j)%len(all)], all[i])
		}
	}
}

// R4

// inside is a vector in the midst of a longer list, and that list: what is behind it would be told, were it read or written.
func inside(v []api.Entry) ([]api.Entry, []api.Entry) {
	l := append(slices.Clone(v), api.Entry{Actor: "z", Count: 77}, api.Entry{Actor: "zz", Count: 78})
	return l[:len(v)], l
}

func TestWhatIsHandedInStaysAsItWas(t *testing.T) {
	all := rights()
	for _, f := range faults() {
		all = append(all, f.k)
	}
	for _, k := range all {
		v, whole := inside(k.Ctx)
		was := slices.Clone(whole)
		k.Ctx = v
		other, whole2 := inside(vec("b4 c1"))
		was2 := slices.Clone(whole2)
		b := dot(other, "b", 6)
		l := []api.Clock{k, b, k, clk("y1"), clk("y2")}
		dotted.Check(k)
		dotted.Knows(k, "z", 77)
		dotted.Covers(k, b)
		dotted.Covers(b, k)
		dotted.Same(k, b)
		dotted.Ceiling(l[:3]...)
		dotted.Ceiling(k)
		dotted.Keep(l[:3]...)
		dotted.Keep(k)
		dotted.Plain(v)
		if !slices.Equal(whole, was) || !slices.Equal(whole2, was2) {
			t.Fatalf("%#v became %#v, %#v became %#v", was, whole, was2, whole2)
		}
		for i, want := range []api.Clock{k, b, k, clk("y1"), clk("y2")} {
			if !dotted.Same(l[i], want) {
				t.Fatalf("at %d: %#v became %#v", i, want, l[i])
			}
		}
	}
}

// TestWhatLiesBehindIsNotRead is of vectors and rows with more behind their length.
func TestWhatLiesBehindIsNotRead(t *testing.T) {
	v, _ := inside(vec("a1"))
	if dotted.Knows(bare(v), "z", 77) || dotted.Covers(bare(v), clk("z1")) || !dotted.Same(bare(v), clk("a1")) || dotted.Check(dot(v, "z", 1)) != api.OK {
		t.Error("what lies behind a vector was read")
	}
	wantCeiling(t, vec("a1"), bare(v))
	l := clks("a1", "b1", "a9 b9")
	wantKeep(t, []int{0, 1}, l[:2]...)
	wantCeiling(t, vec("a1 b1"), l[:2]...)
	l[2] = clk("a0")
	wantKeep(t, []int{0, 1}, l[:2]...)
	wantCeiling(t, vec("a1 b1"), l[:2]...)
	full := many(0, 64)
	if k := dotted.Plain(full[:3]); len(k.Ctx) != 3 {
		t.Errorf("%#v", k)
	}
}

// spoil writes over a list, and over what lies behind it.
func spoil[T any](l []T, x T) {
	l = l[:cap(l)]
	for i := range l {
		l[i] = x
	}
}

func TestWhatIsAnsweredIsNew(t *testing.T) {
	bad := api.Entry{Actor: "spoiled", Count: 7}
	for _, k := range rights() {
		v, whole := inside(k.Ctx)
		was := slices.Clone(whole)
		k.Ctx = v
		l := []api.Clock{k, clk("a1"), clk("b1")}
		plain, again := dotted.Plain(v), dotted.Plain(v)
		spoil(plain.Ctx, bad)
		if !slices.Equal(whole, was) || !slices.Equal(again.Ctx, v) {
			t.Fatalf("%#v became %#v, and %#v", was, whole, again)
		}
		for _, row := range [][]api.Clock{l[:1], {k, k}, {{}, k}, l} {
			up, _ := dotted.Ceiling(row...)
			keep := slices.Clone(up)
			up2, _ := dotted.Ceiling(row...)
			spoil(up, bad)
			places, _ := dotted.Keep(row...)
			kept := slices.Clone(places)
			places2, _ := dotted.Keep(row...)
			spoil(places, -7)
			if !slices.Equal(whole, was) || !slices.Equal(up2, keep) || !slices.Equal(places2, kept) || !dotted.Same(l[1], clk("a1")) {
				t.Fatalf("%#v became %#v, %#v became %#v, %v became %v", was, whole, keep, up2, kept, places2)
			}
		}
	}
}

// TestWhatWasHandedInMayBeWrittenOver is of answers that hang on nothing that was handed in.
func TestWhatWasHandedInMayBeWrittenOver(t *testing.T) {
	v := vec("a1 b2")
	plain := dotted.Plain(v)
	up, _ := dotted.Ceiling(bare(v))
	v[0] = api.Entry{Actor: "spoiled", Count: 7}
	if !slices.Equal(plain.Ctx, vec("a1 b2")) || !slices.Equal(up, vec("a1 b2")) {
		t.Errorf("%#v, %#v", plain, up)
	}
}
