package vector_test

import (
	"math"
	"slices"
	"strconv"
	"strings"
	"testing"

	"spence/api"
	"spence/vector"
)

const most = math.MaxUint64 // the greatest count

// vec is a vector of actors of one byte with their counts: "a1 c2".
func vec(s string) []api.Entry {
	var v []api.Entry
	for _, w := range strings.Fields(s) {
		n, err := strconv.ParseUint(w[1:], 10, 64)
		if err != nil {
			panic(err)
		}
		v = append(v, api.Entry{Actor: w[:1], Count: n})
	}
	return v
}

// many is a right vector of n actors, from the number from on: as many digits each, so that they rise; each count is 3.
func many(from, n int) []api.Entry {
	var v []api.Entry
	for i := range n {
		v = append(v, api.Entry{Actor: strconv.Itoa(1000 + from + i), Count: 3})
	}
	return v
}

// of is a vector of some actors, each with the count 1.
func of(actors ...string) []api.Entry {
	var v []api.Entry
	for _, s := range actors {
		v = append(v, api.Entry{Actor: s, Count: 1})
	}
	return v
}

// long is an actor of n bytes.
func long(n int) string {
	return strings.Repeat("x", n)
}

// with is a vector in which the entry at a place is another one.
func with(v []api.Entry, at int, e api.Entry) []api.Entry {
	l := slices.Clone(v)
	l[at] = e
	return l
}

// fault is a list that isn't right, and why.
type fault struct {
	v []api.Entry
	e api.Errno
}

// faults are lists with each of the errors, at all edges.
func faults() []fault {
	return []fault{
		// too many, whatever the entries
		{many(0, 65), api.ErrLimit}, {many(0, 66), api.ErrLimit}, {many(0, 200), api.ErrLimit}, {make([]api.Entry, 65), api.ErrLimit}, {with(many(0, 65), 0, api.Entry{}), api.ErrLimit}, {with(many(0, 65), 64, vec("a0")[0]), api.ErrLimit},
		// an actor that is too long
		{of(long(33)), api.ErrLimit}, {of(long(34)), api.ErrLimit}, {of(long(1000)), api.ErrLimit}, {of("a", long(33)), api.ErrLimit}, {of(long(33), "y"), api.ErrLimit}, {of(strings.Repeat("\xff", 33)), api.ErrLimit}, {of(strings.Repeat("\x00", 33)), api.ErrLimit}, {with(many(0, 64), 63, of(long(33))[0]), api.ErrLimit},
		// one that is empty
		{of(""), api.ErrEmpty}, {of("", "a"), api.ErrEmpty}, {of("a", ""), api.ErrEmpty}, {of("", ""), api.ErrEmpty}, {make([]api.Entry, 1), api.ErrEmpty}, {make([]api.Entry, 64), api.ErrEmpty}, {with(many(0, 64), 63, of("")[0]), api.ErrEmpty}, {with(many(0, 64), 0, of("")[0]), api.ErrEmpty},
		// actors that don't rise
		{of("a", "a"), api.ErrOrder}, {of("b", "a"), api.ErrOrder}, {vec("a1 a2"), api.ErrOrder}, {vec("a2 a1"), api.ErrOrder}, {of("ab", "a"), api.ErrOrder}, {of("a", "b", "a"), api.ErrOrder}, {of("a", "c", "b"), api.ErrOrder}, {of("\x80", "\x7f"), api.ErrOrder}, {of("\xff", "\x00"), api.ErrOrder}, {of("\xff", "a"), api.ErrOrder}, {of("a\x00", "a"), api.ErrOrder}, {of("b", "aa"), api.ErrOrder}, {of(long(32), long(31)), api.ErrOrder}, {of(long(32), long(32)), api.ErrOrder}, {with(many(0, 64), 63, many(62, 1)[0]), api.ErrOrder}, {with(many(0, 64), 0, many(1, 1)[0]), api.ErrOrder},
		// a count that is 0
		{vec("a0"), api.ErrZero}, {vec("a0 b1"), api.ErrZero}, {vec("a1 b0"), api.ErrZero}, {vec("a0 b0"), api.ErrZero}, {vec("a1 b0 c1"), api.ErrZero}, {with(many(0, 64), 63, api.Entry{Actor: "z"}), api.ErrZero},
		// two errors in one entry
		{[]api.Entry{{Actor: long(33)}}, api.ErrLimit}, {of("y", long(33)), api.ErrLimit}, {of(long(33), long(33)), api.ErrLimit}, {[]api.Entry{{Actor: "y", Count: 1}, {Actor: long(33)}}, api.ErrLimit}, {[]api.Entry{{}}, api.ErrEmpty}, {[]api.Entry{{Actor: "a", Count: 1}, {}}, api.ErrEmpty}, {vec("b1 a0"), api.ErrOrder}, {vec("a1 a0"), api.ErrOrder},
		// errors of two entries: the first entry's
		{vec("a0 a1"), api.ErrZero}, {vec("b0 a0"), api.ErrZero}, {append(vec("a0"), of(long(33))...), api.ErrZero}, {append(vec("a0"), of("")...), api.ErrZero}, {append(of(""), of(long(33))...), api.ErrEmpty}, {append(vec("b1 a1"), of(long(33))...), api.ErrOrder}, {vec("b1 a1 c0"), api.ErrOrder}, {append(of("b", "a"), of("")...), api.ErrOrder}, {append(of(long(33)), of("")...), api.ErrLimit}, {append(of(long(33)), vec("a0")...), api.ErrLimit}, {append(of("z", ""), vec("a0")...), api.ErrEmpty}, {append(make([]api.Entry, 63), of(long(33))...), api.ErrEmpty},
	}
}

// rights are right vectors, at all edges.
func rights() [][]api.Entry {
	return [][]api.Entry{
		nil, {}, of("a"), vec("a1"), vec("a2"), vec("b1"), vec("a1 b1"), vec("a1 b2 c3"), vec("a3 b2"), many(0, 2), many(0, 63), many(0, 64), many(1, 64), many(32, 64),
		of(long(1)), of(long(31)), of(long(32)), of(long(31), long(32)), of("a", "aa", "aaa"), of("a", "a\x00", "a\x00\x00", "a\x01"), of("a", "ab", "b"), of("A", "a"), of("\x00"), of("\x00", "\x00\x00"), of("\x7f", "\x80", "\xff", "\xff\xff"), of("a", "\xc3\xa4"), of("a", "\xe4", "\xff"), of(strings.Repeat("\xff", 32)),
		{{Actor: "a", Count: most}}, {{Actor: "a", Count: most - 1}}, {{Actor: "a", Count: 1}, {Actor: "b", Count: most}}, {{Actor: "a", Count: 1 << 63}}, {{Actor: "a", Count: 1<<63 - 1}},
	}
}

// wantJoin holds what is joined against a vector.
func wantJoin(t *testing.T, want []api.Entry, l ...[]api.Entry) {
	t.Helper()
	if v, e := vector.Join(l...); !slices.Equal(v, want) || e != api.OK {
		t.Fatalf("of %#v: %#v, error %d; not %#v", l, v, e, want)
	}
}

// wantNoJoin holds what is joined against an error.
func wantNoJoin(t *testing.T, want api.Errno, l ...[]api.Entry) {
	t.Helper()
	if v, e := vector.Join(l...); len(v) != 0 || e != want {
		t.Fatalf("of %#v: %#v, error %d; not error %d", l, v, e, want)
	}
}

// wantEvent holds a vector with one event more against another one.
func wantEvent(t *testing.T, want, v []api.Entry, actor string) {
	t.Helper()
	if l, e := vector.Event(v, actor); !slices.Equal(l, want) || e != api.OK {
		t.Fatalf("of %#v and %.50q: %#v, error %d; not %#v", v, actor, l, e, want)
	}
}

// wantNoEvent holds a vector with one event more against an error.
func wantNoEvent(t *testing.T, want api.Errno, v []api.Entry, actor string) {
	t.Helper()
	if l, e := vector.Event(v, actor); len(l) != 0 || e != want {
		t.Fatalf("of %#v and %.50q: %#v, error %d; not error %d", v, actor, l, e, want)
	}
}

// wantOrder holds Order, and Descends, both ways, of right vectors against what Order tells.
func wantOrder(t *testing.T, a, b []api.Entry, want int) {
	t.Helper()
	back := want
	if want == 1 || want == -1 {
		back = -want
	}
	if n, ok := vector.Order(a, b); n != want || !ok {
		t.Fatalf("order of %#v and %#v: %d, %v; not %d", a, b, n, ok, want)
	}
	if n, ok := vector.Order(b, a); n != back || !ok {
		t.Fatalf("order of %#v and %#v: %d, %v; not %d", b, a, n, ok, back)
	}
	if vector.Descends(a, b) != (want == 0 || want == 1) || vector.Descends(b, a) != (want == 0 || want == -1) {
		t.Fatalf("%#v and %#v descend: %v, %v; their order is %d", a, b, vector.Descends(a, b), vector.Descends(b, a), want)
	}
}

// wantNoOrder holds Order and Descends against there being no answer.
func wantNoOrder(t *testing.T, a, b []api.Entry) {
	t.Helper()
	if n, ok := vector.Order(a, b); n != 0 || ok {
		t.Fatalf("order of %#v and %#v: %d, %v", a, b, n, ok)
	}
	if vector.Descends(a, b) {
		t.Fatalf("%#v descends from %#v", a, b)
	}
}

// P10.1

func TestCheckOfRightOnes(t *testing.T) {
	for _, v := range rights() {
		if e := vector.Check(v); e != api.OK {
			t.Errorf("of %#v: error %d", v, e)
		}
	}
}

func TestCheckOfFaults(t *testing.T) {
	for _, f := range faults() {
		if e := vector.Check(f.v); e != f.e {
			t.Errorf("of %#v (%d entries): error %d, not %d", f.v, len(f.v), e, f.e)
		}
	}
}

func TestCheckFindsAFaultAtEachPlace(t *testing.T) {
	for at := range 64 {
		for _, f := range []struct {
			actor string
			count uint64
			e     api.Errno
		}{{long(33), 1, api.ErrLimit}, {"", 1, api.ErrEmpty}, {many(at, 1)[0].Actor, 0, api.ErrZero}, {many(max(at, 1)-1, 1)[0].Actor, 1, api.ErrOrder}} {
			if at == 0 && f.e == api.ErrOrder { // there is none ahead
				continue
			}
			v := with(many(0, 64), at, api.Entry{Actor: f.actor, Count: f.count})
			if e := vector.Check(v); e != f.e {
				t.Errorf("%q at %d: error %d, not %d", f.actor, at, e, f.e)
			}
		}
	}
}

func TestCount(t *testing.T) {
	for _, c := range []struct {
		v     []api.Entry
		actor string
		n     uint64
	}{
		{nil, "", 0}, {nil, "a", 0}, {[]api.Entry{}, "a", 0},
		{vec("a5"), "a", 5}, {vec("a5"), "b", 0}, {vec("a5"), "", 0}, {vec("a5"), "aa", 0}, {vec("a5"), "A", 0}, {of("aa"), "a", 0},
		{vec("a5 c6 e7"), "a", 5}, {vec("a5 c6 e7"), "c", 6}, {vec("a5 c6 e7"), "e", 7}, {vec("a5 c6 e7"), "b", 0}, {vec("a5 c6 e7"), "d", 0}, {vec("a5 c6 e7"), "f", 0}, {vec("a5 c6 e7"), "\x00", 0},
		{[]api.Entry{{Actor: "a", Count: most}}, "a", most}, {many(0, 64), "1063", 3}, {many(0, 64), "1064", 0},
		// lists that aren't right
		{vec("a5 a6"), "a", 5}, {vec("a6 a5"), "a", 6}, {vec("b1 a5 a6 b2"), "a", 5}, {vec("a0 a6"), "a", 0}, {vec("c1 b2 a3"), "a", 3}, {vec("c1 b2 a3"), "c", 1}, {vec("c1 b2 a3"), "b", 2}, {vec("a1 b0 c3"), "c", 3}, {vec("a1 b0 c3"), "b", 0},
		{of(""), "", 1}, {[]api.Entry{{Count: 7}, {Count: 8}}, "", 7}, {[]api.Entry{{Actor: "a", Count: 2}, {Count: 8}}, "", 8}, {of(long(33)), long(33), 1}, {of(long(33)), long(32), 0}, {many(0, 200), "1199", 3}, {many(0, 200), "1200", 0}, {append(many(0, 65), vec("z9")...), "z", 9},
	} {
		if n := vector.Count(c.v, c.actor); n != c.n {
			t.Errorf("of %#v and %.50q: %d, not %d", c.v, c.actor, n, c.n)
		}
	}
}

func TestSame(t *testing.T) {
	for _, c := range []struct {
		a, b []api.Entry
		same bool
	}{
		{nil, nil, true}, {nil, []api.Entry{}, true}, {vec("a1"), vec("a1"), true}, {vec("a1 b2"), vec("a1 b2"), true}, {many(0, 64), many(0, 64), true},
		{nil, vec("a1"), false}, {vec("a1"), vec("a1 b1"), false}, {vec("b1"), vec("a1 b1"), false}, {many(0, 64), many(0, 63), false},
		{vec("a1"), vec("b1"), false}, {vec("a1 b1"), vec("a1 c1"), false}, {vec("a1 c1"), vec("b1 c1"), false}, {of("a"), of("aa"), false}, {of("a"), of("A"), false}, {of("a"), of("a\x00"), false}, {of("\xff"), of("\xfe"), false},
		{vec("a1"), vec("a2"), false}, {vec("a1 b1"), vec("a1 b2"), false}, {vec("a1 b1"), vec("a2 b1"), false}, {[]api.Entry{{Actor: "a", Count: most}}, []api.Entry{{Actor: "a", Count: most - 1}}, false}, {[]api.Entry{{Actor: "a", Count: 1 << 32}}, []api.Entry{{Actor: "a"}}, false},
		// lists that aren't right
		{vec("a1 b1"), vec("b1 a1"), false}, {vec("b1 a1"), vec("b1 a1"), true}, {vec("a1 a2"), vec("a1 a2"), true}, {vec("a1 a2"), vec("a2 a1"), false}, {vec("a1 a1"), vec("a1"), false}, {vec("a0"), vec("a0"), true}, {vec("a0"), nil, false}, {of(""), of(""), true}, {[]api.Entry{{}}, nil, false}, {make([]api.Entry, 3), make([]api.Entry, 3), true}, {make([]api.Entry, 3), make([]api.Entry, 4), false}, {of(long(33)), of(long(33)), true}, {of(long(33)), of(long(34)), false}, {many(0, 200), many(0, 200), true}, {many(0, 200), many(0, 199), false}, {many(0, 200), with(many(0, 200), 199, api.Entry{}), false},
	} {
		if vector.Same(c.a, c.b) != c.same || vector.Same(c.b, c.a) != c.same {
			t.Errorf("%#v and %#v: %v, %v; not %v", c.a, c.b, vector.Same(c.a, c.b), vector.Same(c.b, c.a), c.same)
		}
	}
}

// P10.2

func TestOrder(t *testing.T) {
	for _, c := range []struct {
		a, b []api.Entry
		n    int
	}{
		{nil, nil, 0}, {nil, []api.Entry{}, 0}, {vec("a1"), vec("a1"), 0}, {vec("a1 b2"), vec("a1 b2"), 0}, {many(0, 64), many(0, 64), 0},
		{vec("a1"), nil, 1}, {many(0, 64), nil, 1}, // all descend from the empty one
		{vec("a2"), vec("a1"), 1}, {vec("a1 b2"), vec("a1 b1"), 1}, {vec("a2 b1"), vec("a1 b1"), 1}, {vec("a1 b3 c1"), vec("a1 b2 c1"), 1}, {vec("a9"), vec("a1"), 1}, {vec("a2 b2"), vec("a1 b1"), 1}, // more of an actor
		{vec("a1 b1"), vec("a1"), 1}, {vec("a1 b1"), vec("b1"), 1}, {vec("a1 b1 c1"), vec("a1 c1"), 1}, {vec("a1 b1 c1"), vec("b1"), 1}, {vec("a2 b1"), vec("a1"), 1}, {many(0, 64), many(0, 63), 1}, {many(0, 64), many(1, 63), 1}, // an actor more
		{vec("a1"), vec("b1"), 2}, {vec("a2 b1"), vec("a1 b2"), 2}, {vec("a1 b1"), vec("a2"), 2}, {vec("a1 b1"), vec("b2"), 2}, {vec("a1 b1"), vec("b1 c1"), 2}, {vec("a3 b2"), vec("a1 b1 c1"), 2}, {of("a"), of("aa"), 2}, {of("a"), of("A"), 2}, {many(0, 64), many(1, 64), 2}, {many(0, 64), vec("z1"), 2}, // neither
		{vec("a3 b2"), vec("a1 b2"), 1}, {vec("a3"), vec("a1 b2"), 2},
		{[]api.Entry{{Actor: "a", Count: most}}, []api.Entry{{Actor: "a", Count: most - 1}}, 1}, {[]api.Entry{{Actor: "a", Count: most}}, vec("a1"), 1}, {[]api.Entry{{Actor: "a", Count: 1 << 63}}, []api.Entry{{Actor: "a", Count: 1<<63 - 1}}, 1}, {[]api.Entry{{Actor: "a", Count: most}}, []api.Entry{{Actor: "a", Count: most}}, 0},
	} {
		wantOrder(t, c.a, c.b, c.n)
	}
}

func TestTheExampleOfOrder(t *testing.T) {
	wantJoin(t, vec("a3 b2"), vec("a1 b2"), vec("a3"))
	wantOrder(t, vec("a1 b2"), vec("a3"), 2)
}

func TestOrderOfWhatIsNotRight(t *testing.T) {
	for _, f := range faults() {
		for _, v := range rights() {
			wantNoOrder(t, f.v, v)
			wantNoOrder(t, v, f.v)
		}
		for _, g := range faults() {
			wantNoOrder(t, f.v, g.v)
		}
	}
}

// P10.3

func TestJoin(t *testing.T) {
	wantJoin(t, nil)
	wantJoin(t, nil, nil)
	wantJoin(t, nil, nil, []api.Entry{}, nil)
	wantJoin(t, vec("a1"), nil, vec("a1"), nil)
	wantJoin(t, vec("a1 b1"), vec("a1"), vec("b1"))
	wantJoin(t, vec("a1 b1"), vec("b1"), vec("a1"))
	wantJoin(t, vec("a3"), vec("a3"), vec("a2"))
	wantJoin(t, vec("a3"), vec("a2"), vec("a3"))
	wantJoin(t, vec("a3"), vec("a1"), vec("a3"), vec("a2"))
	wantJoin(t, vec("a2 b2"), vec("a2 b1"), vec("a1 b2"))
	wantJoin(t, vec("a1 b1 c1 d1 e1"), vec("b1 d1"), vec("a1 c1 e1"))
	wantJoin(t, vec("a1 b5 c3 d4"), vec("c3"), vec("b2 d4"), vec("a1 b5"), vec("d1"))
	wantJoin(t, of("a", "aa", "ab", "b"), of("ab"), of("b"), of("a"), of("aa"))
	wantJoin(t, of("\x00", "\x7f", "\x80", "\xff"), of("\xff"), of("\x80"), of("\x7f"), of("\x00"))
	wantJoin(t, []api.Entry{{Actor: "a", Count: most}}, []api.Entry{{Actor: "a", Count: most - 1}}, []api.Entry{{Actor: "a", Count: most}}, vec("a1"))
	wantJoin(t, []api.Entry{{Actor: "a", Count: 1 << 63}}, []api.Entry{{Actor: "a", Count: 1 << 63}}, []api.Entry{{Actor: "a", Count: 1<<63 - 1}})
}

func TestJoinOfOneAndOfTheSame(t *testing.T) {
	for _, v := range rights() {
		wantJoin(t, v, v)
		wantJoin(t, v, v, v)
		wantJoin(t, v, v, nil, slices.Clone(v), v)
	}
}

func TestJoinUpToTheLimit(t *testing.T) {
	wantJoin(t, many(0, 64), many(0, 64), many(0, 64))
	wantJoin(t, many(0, 64), many(0, 32), many(32, 32))
	wantJoin(t, many(0, 64), many(32, 32), many(0, 32))
	wantJoin(t, many(0, 64), many(0, 63), many(1, 63))
	wantJoin(t, append(many(0, 63), vec("z1")...), many(0, 63), vec("z1"))
	wantNoJoin(t, api.ErrLimit, many(0, 64), many(1, 64))
	wantNoJoin(t, api.ErrLimit, many(0, 64), vec("z1"))
	wantNoJoin(t, api.ErrLimit, vec("z1"), many(0, 64))
	wantNoJoin(t, api.ErrLimit, many(0, 32), many(32, 33))
	wantNoJoin(t, api.ErrLimit, many(0, 64), many(64, 64))
	wantNoJoin(t, api.ErrLimit, many(0, 64), nil, many(0, 64), vec("z1"), nil)
	var ones [][]api.Entry
	for i := range 64 {
		ones = append(ones, many(63-i, 1))
	}
	wantJoin(t, many(0, 64), ones...)
	wantNoJoin(t, api.ErrLimit, append(ones, many(64, 1))...)
}

// TestJoinOfManyThousand is of 20000 vectors of one actor of 64, in no order of their counts, each of which comes once.
func TestJoinOfManyThousand(t *testing.T) {
	want := many(0, 64)
	for i := range want {
		want[i].Count = uint64(19968 + i + 1)
		if i >= 32 {
			want[i].Count -= 64
		}
	}
	var l [][]api.Entry
	for i := range 20000 {
		n := i * 7919 % 20000
		l = append(l, []api.Entry{{Actor: many(n%64, 1)[0].Actor, Count: uint64(n + 1)}})
	}
	wantJoin(t, want, l...)
	wantNoJoin(t, api.ErrLimit, append(slices.Clone(l), vec("z1"))...)
	wantNoJoin(t, api.ErrArg, append(slices.Clone(l), vec("z1"), vec("z0"))...)
}

func TestJoinWithOneThatIsNotRight(t *testing.T) {
	around := [][]api.Entry{vec("a1 b2"), nil, many(0, 30), vec("a3")}
	for _, f := range faults() {
		wantNoJoin(t, api.ErrArg, f.v)
		for at := range len(around) + 1 {
			wantNoJoin(t, api.ErrArg, slices.Insert(slices.Clone(around), at, f.v)...)
		}
		for at := range 3 { // too many together, too
			wantNoJoin(t, api.ErrArg, slices.Insert([][]api.Entry{many(0, 64), many(64, 64)}, at, f.v)...)
		}
		wantNoJoin(t, api.ErrArg, f.v, f.v)
	}
}

func TestEvent(t *testing.T) {
	wantEvent(t, vec("a1"), nil, "a")
	wantEvent(t, vec("a1"), []api.Entry{}, "a")
	wantEvent(t, vec("a2"), vec("a1"), "a")
	wantEvent(t, vec("a10"), vec("a9"), "a")
	wantEvent(t, vec("b3 d4 f6"), vec("b3 d4 f5"), "f")
	wantEvent(t, vec("b3 d5 f5"), vec("b3 d4 f5"), "d")
	wantEvent(t, vec("b4 d4 f5"), vec("b3 d4 f5"), "b")
	wantEvent(t, vec("a1 b3 d4 f5"), vec("b3 d4 f5"), "a")
	wantEvent(t, vec("b3 c1 d4 f5"), vec("b3 d4 f5"), "c")
	wantEvent(t, vec("b3 d4 e1 f5"), vec("b3 d4 f5"), "e")
	wantEvent(t, vec("b3 d4 f5 g1"), vec("b3 d4 f5"), "g")
	wantEvent(t, of("a", "aa", "b"), of("a", "b"), "aa")
	wantEvent(t, of("\x00", "a"), of("a"), "\x00")
	wantEvent(t, of("a", "\xff"), of("a"), "\xff")
	wantEvent(t, of("\x7f", "\x80"), of("\x80"), "\x7f")
}

func TestEventAtTheGreatestCount(t *testing.T) {
	for _, v := range [][]api.Entry{{{Actor: "b", Count: most - 1}}, {{Actor: "a", Count: most}, {Actor: "b", Count: most - 1}, {Actor: "c", Count: most}}} {
		at := len(v) / 2
		full := with(v, at, api.Entry{Actor: "b", Count: most})
		wantEvent(t, full, v, "b")
		wantNoEvent(t, api.ErrOver, full, "b")
	}
	wantEvent(t, []api.Entry{{Actor: "a", Count: most}, {Actor: "b", Count: 1}}, []api.Entry{{Actor: "a", Count: most}}, "b")
	wantEvent(t, []api.Entry{{Actor: "a", Count: 1 << 63}}, []api.Entry{{Actor: "a", Count: 1<<63 - 1}}, "a")
}

func TestEventUpToTheLimit(t *testing.T) {
	wantEvent(t, append(many(0, 63), vec("z1")...), many(0, 63), "z")
	wantEvent(t, append(of("1"), many(0, 63)...), many(0, 63), "1")
	wantNoEvent(t, api.ErrLimit, many(0, 64), "z")
	wantNoEvent(t, api.ErrLimit, many(0, 64), "1")
	wantNoEvent(t, api.ErrLimit, many(0, 64), "1030x")
	for i := range 64 {
		e := many(i, 1)[0]
		wantEvent(t, with(many(0, 64), i, api.Entry{Actor: e.Actor, Count: 4}), many(0, 64), e.Actor)
		wantNoEvent(t, api.ErrOver, with(many(0, 64), i, api.Entry{Actor: e.Actor, Count: most}), e.Actor)
	}
}

func TestEventOfActorsOfAnyLength(t *testing.T) {
	for n := range 100 {
		for _, v := range [][]api.Entry{nil, vec("a1"), many(0, 63)} {
			if n < 1 || n > 32 {
				wantNoEvent(t, api.ErrArg, v, long(n))
				continue
			}
			wantEvent(t, append(slices.Clone(v), of(long(n))...), v, long(n))
		}
	}
	wantEvent(t, []api.Entry{{Actor: long(32), Count: 2}}, of(long(32)), long(32))
	wantNoEvent(t, api.ErrArg, vec("a1"), strings.Repeat("\x00", 33))
}

// TestEventTellsTheFirstError is of calls with two errors: what is not right is told ahead of a count that is the greatest one, and of too many entries.
func TestEventTellsTheFirstError(t *testing.T) {
	for _, actor := range []string{"", long(33), long(5000)} {
		wantNoEvent(t, api.ErrArg, many(0, 64), actor)
		wantNoEvent(t, api.ErrArg, []api.Entry{{Actor: "a", Count: most}}, actor)
		wantNoEvent(t, api.ErrArg, []api.Entry{{Actor: actor, Count: most}}, actor)
		wantNoEvent(t, api.ErrArg, of(actor), actor)
	}
	for _, f := range faults() {
		for _, actor := range []string{"a", "z", "", long(32), long(33), "1063"} {
			wantNoEvent(t, api.ErrArg, f.v, actor)
		}
	}
	wantNoEvent(t, api.ErrArg, []api.Entry{{Actor: "b", Count: 1}, {Actor: "a", Count: most}}, "a")
	wantNoEvent(t, api.ErrArg, append([]api.Entry{{Actor: "0", Count: most}}, many(0, 64)...), "0")
}

// P10.4

func TestWhatIsJoinedIsTheLeastThatDescendsFromEach(t *testing.T) {
	for _, a := range rights() {
		for _, b := range rights() {
			j, e := vector.Join(a, b)
			if e == api.ErrLimit {
				continue
			}
			if !vector.Descends(j, a) || !vector.Descends(j, b) {
				t.Fatalf("%#v doesn't descend from %#v and %#v", j, a, b)
			}
			for _, c := range append(rights(), vec("a9 b9 c9"), many(0, 64)) {
				if vector.Descends(c, j) != (vector.Descends(c, a) && vector.Descends(c, b)) {
					t.Fatalf("%#v descends from %#v: %v; from %#v and %#v: %v, %v", c, j, vector.Descends(c, j), a, b, vector.Descends(c, a), vector.Descends(c, b))
				}
			}
		}
	}
}

// TestOneEventLessIsTooFew takes one event off what is joined: that doesn't descend from each any more.
func TestOneEventLessIsTooFew(t *testing.T) {
	l := [][]api.Entry{vec("a1 b2 d7"), vec("a3 c1"), many(0, 20), vec("b2 d6"), nil}
	j, e := vector.Join(l...)
	if e != api.OK || len(j) != 24 {
		t.Fatalf("%#v, error %d", j, e)
	}
	for i := range j {
		less := slices.Clone(j)
		less[i].Count--
		if less[i].Count == 0 {
			less = slices.Delete(less, i, i+1)
		}
		all := true
		for _, v := range l {
			all = all && vector.Descends(less, v)
		}
		if all || vector.Check(less) != api.OK || vector.Descends(less, j) {
			t.Errorf("%#v descends from each", less)
		}
	}
}

// R4

// inside is a vector in the midst of a longer list, and that list: what is behind it would be told, were it read or written.
func inside(v []api.Entry) ([]api.Entry, []api.Entry) {
	l := append(slices.Clone(v), api.Entry{Actor: "behind", Count: 77}, api.Entry{Actor: "zz", Count: 78})
	return l[:len(v)], l
}

func TestWhatIsHandedInStaysAsItWas(t *testing.T) {
	for _, v := range append(rights(), vec("b1 a2"), many(0, 65), vec("a0")) {
		a, whole := inside(v)
		was := slices.Clone(whole)
		b, whole2 := inside(vec("b4 c1"))
		was2 := slices.Clone(whole2)
		l := [][]api.Entry{a, b, a}
		vector.Check(a)
		vector.Count(a, "behind")
		vector.Descends(a, b)
		vector.Order(a, b)
		vector.Join(l...)
		vector.Join(a)
		vector.Same(a, b)
		for _, actor := range []string{"a", "b", "zz", "", "0"} {
			vector.Event(a, actor)
		}
		if !slices.Equal(whole, was) || !slices.Equal(whole2, was2) {
			t.Fatalf("%#v became %#v", was, whole)
		}
		if len(l) != 3 || !slices.Equal(l[0], v) || !slices.Equal(l[1], was2[:2]) || !slices.Equal(l[2], v) {
			t.Fatalf("the list became %#v", l)
		}
		if vector.Count(a, "behind") != 0 {
			t.Fatal("what lies behind was read")
		}
	}
}

func TestWhatIsAnsweredIsNew(t *testing.T) {
	spoil := func(v []api.Entry) {
		for i := range v {
			v[i] = api.Entry{Actor: "spoiled"}
		}
		v = v[:cap(v)]
		for i := range v {
			v[i] = api.Entry{Actor: "spoiled"}
		}
	}
	for _, v := range rights() {
		a, whole := inside(v)
		was := slices.Clone(whole)
		one, _ := vector.Join(a)
		two, _ := vector.Join(a, a)
		three, _ := vector.Join(nil, a)
		four, _ := vector.Event(a, "a")
		again, _ := vector.Event(a, "a")
		keep := slices.Clone(again)
		for _, l := range [][]api.Entry{one, two, three, four} {
			spoil(l)
		}
		if !slices.Equal(whole, was) || !slices.Equal(again, keep) {
			t.Fatalf("%#v became %#v, %#v became %#v", was, whole, keep, again)
		}
	}
}
