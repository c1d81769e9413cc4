package dotted_test

import (
	"iter"
	"slices"
	"strings"
	"testing"

	"spence/api"
	"spence/dotted"
	"spence/vector"
)

// rows are all rows of up to k elements.
func rows[T any](of []T, k int) [][]T {
	all := [][]T{nil}
	for from := 0; k > 0; k-- {
		to := len(all)
		for _, row := range all[from:to] {
			for _, x := range of {
				all = append(all, append(append([]T{}, row...), x))
			}
		}
		from = to
	}
	return all
}

// entries are all entries of some actors and counts.
func entries(actors []string, counts []uint64) []api.Entry {
	var l []api.Entry
	for _, s := range actors {
		for _, n := range counts {
			l = append(l, api.Entry{Actor: s, Count: n})
		}
	}
	return l
}

// rule is a named error, and whether it holds.
type rule struct {
	holds bool
	e     api.Errno
}

// first is the error of the first rule that holds.
func first(l ...rule) api.Errno {
	for _, r := range l {
		if r.holds {
			return r.e
		}
	}
	return api.OK
}

// upTo is the count of an actor in a list whose actors rise. It walks from the right, so that it is no copy of the program.
func upTo(v []api.Entry, actor string) uint64 {
	for _, x := range slices.Backward(v) {
		if x.Actor == actor {
			return x.Count
		}
	}
	return 0
}

// checked is what the chapters' words say of a clock: each error, looked for on its own.
func checked(k api.Clock) api.Errno {
	if len(k.Ctx) > 64 {
		return api.ErrLimit
	}
	for i, x := range k.Ctx {
		if e := first(rule{len(x.Actor) > 32, api.ErrLimit}, rule{len(x.Actor) == 0, api.ErrEmpty}, rule{i > 0 && strings.Compare(k.Ctx[max(i, 1)-1].Actor, x.Actor) >= 0, api.ErrOrder}, rule{x.Count == 0, api.ErrZero}); e != api.OK {
			return e
		}
	}
	if !k.Dotted {
		return first(rule{len(k.Dot.Actor) > 0 || k.Dot.Count > 0, api.ErrArg})
	}
	return first(rule{len(k.Dot.Actor) > 32, api.ErrLimit}, rule{len(k.Dot.Actor) == 0, api.ErrEmpty}, rule{k.Dot.Count == 0, api.ErrZero}, rule{upTo(k.Ctx, k.Dot.Actor) >= k.Dot.Count, api.ErrDot})
}

// known tells whether a right clock knows an event.
func known(k api.Clock, actor string, n uint64) bool {
	inside := 1 <= n && n <= upTo(k.Ctx, actor)
	return inside || k.Dotted && k.Dot.Actor == actor && k.Dot.Count == n
}

// edges are the events at which what some clocks know may begin or end: of each entry and dot the event itself, those right beside it, and the first one. Where one of the clocks knows an event that another one doesn't, there is one among these too.
func edges(l ...api.Clock) iter.Seq[api.Entry] {
	return func(tell func(api.Entry) bool) {
		around := func(x api.Entry) bool { // around 0 and the greatest one they wrap round, which is no harm
			for _, n := range [4]uint64{x.Count - 1, x.Count, x.Count + 1, 1} {
				if !tell(api.Entry{Actor: x.Actor, Count: n}) {
					return false
				}
			}
			return true
		}
		for _, k := range l {
			for _, x := range k.Ctx {
				if !around(x) {
					return
				}
			}
			if !around(k.Dot) {
				return
			}
		}
	}
}

// covering tells whether a right clock knows all that another right one knows.
func covering(a, b api.Clock) bool {
	for x := range edges(a, b) {
		if known(b, x.Actor, x.Count) && !known(a, x.Actor, x.Count) {
			return false
		}
	}
	return true
}

// ceiled is the vector of the greatest events that right clocks know, of each actor.
func ceiled(l []api.Clock) []api.Entry {
	var all []api.Entry
	for _, k := range l {
		all = append(all, k.Ctx...)
		if k.Dotted {
			all = append(all, k.Dot)
		}
	}
	slices.SortFunc(all, func(x, y api.Entry) int {
		switch c := strings.Compare(x.Actor, y.Actor); {
		case c != 0:
			return c
		case x.Count > y.Count: // the greatest first
			return -1
		case x.Count < y.Count:
			return 1
		}
		return 0
	})
	return slices.CompactFunc(all, func(x, y api.Entry) bool { return x.Actor == y.Actor })
}

// keeping are the places of right clocks that no other one covers, but one that knows the same and stands behind.
func keeping(l []api.Clock) []int {
	var out []int
	for i, k := range l {
		none := true
		for j, other := range l {
			same := covering(k, other) && covering(other, k)
			if i != j && covering(other, k) && !(same && j > i) {
				none = false
			}
		}
		if none {
			out = append(out, i)
		}
	}
	return out
}

// wantAlone holds Check, Plain and Knows of a clock against the chapter's words.
func wantAlone(t *testing.T, k api.Clock, events []api.Entry) {
	t.Helper()
	want := checked(k)
	if e := dotted.Check(k); e != want {
		t.Fatalf("of %#v: error %d, not %d", k, e, want)
	}
	if p := dotted.Plain(k.Ctx); !slices.Equal(p.Ctx, k.Ctx) || p.Dotted || p.Dot != (api.Entry{}) {
		t.Fatalf("of %#v: %#v", k.Ctx, p)
	}
	for _, x := range slices.AppendSeq(slices.Clone(events), edges(k)) {
		if dotted.Knows(k, x.Actor, x.Count) != (want == api.OK && known(k, x.Actor, x.Count)) {
			t.Fatalf("%#v knows %#v: %v", k, x, dotted.Knows(k, x.Actor, x.Count))
		}
	}
}

// wantPair holds Covers and Same of two clocks against the chapter's words.
func wantPair(t *testing.T, a, b api.Clock) {
	t.Helper()
	right := checked(a) == api.OK && checked(b) == api.OK
	if dotted.Covers(a, b) != (right && covering(a, b)) {
		t.Fatalf("%#v covers %#v: %v", a, b, dotted.Covers(a, b))
	}
	same := slices.Equal(a.Ctx, b.Ctx) && a.Dotted == b.Dotted && a.Dot.Actor == b.Dot.Actor && a.Dot.Count == b.Dot.Count
	if dotted.Same(a, b) != same {
		t.Fatalf("%#v and %#v: %v", a, b, !same)
	}
}

// wantAll holds Ceiling and Keep of clocks against the chapter's words, and P12.4.
func wantAll(t *testing.T, l ...api.Clock) {
	t.Helper()
	if slices.ContainsFunc(l, func(k api.Clock) bool { return checked(k) != api.OK }) {
		wantNoCeiling(t, api.ErrArg, l...)
		wantNoKeep(t, l...)
		return
	}
	if want := ceiled(l); len(want) > 64 {
		wantNoCeiling(t, api.ErrLimit, l...)
	} else {
		wantCeiling(t, want, l...)
	}
	wantKeep(t, keeping(l), l...)
	wantKept(t, l...)
}

// anyClocks are all clocks of some vectors and dots, dotted or not.
func anyClocks(vectors [][]api.Entry, dots []api.Entry) []api.Clock {
	var l []api.Clock
	for _, v := range vectors {
		for _, d := range dots {
			l = append(l, dot(v, d.Actor, d.Count), stray(v, d.Actor, d.Count))
		}
	}
	return l
}

// TestAllClocks is of all clocks of up to two entries and any dot, right or not.
func TestAllClocks(t *testing.T) {
	actors := []string{"", "a", "b", long(32), long(33)}
	counts := []uint64{0, 1, 2, most - 1, most}
	events := entries(actors, append([]uint64{3}, counts...))
	for _, k := range anyClocks(rows(entries(actors, counts), 2), entries(actors, counts)) {
		wantAlone(t, k, events)
	}
}

// TestAllPairsOfClocks is of all pairs of clocks of one or two entries, right or not.
func TestAllPairsOfClocks(t *testing.T) {
	vectors := append(rows(entries([]string{"", "a", "b"}, []uint64{0, 1, 2}), 1), vec("a1 b1"), vec("a2 b1"), vec("b1 a1"), vec("a1 a1"), one("a", most))
	dots := append(entries([]string{"a", "b"}, []uint64{0, 1, 2, 3, most}), entries([]string{"", long(33)}, []uint64{0, 1})...)
	all := anyClocks(vectors, dots)
	for _, a := range all {
		for _, b := range all {
			wantPair(t, a, b)
			wantAll(t, a, b)
		}
	}
}

// set are all events that a right clock with small counts knows, one by one.
func set(k api.Clock) map[api.Entry]bool {
	all := map[api.Entry]bool{}
	for _, x := range k.Ctx {
		for n := range x.Count {
			all[api.Entry{Actor: x.Actor, Count: n + 1}] = true
		}
	}
	if k.Dotted {
		all[k.Dot] = true
	}
	return all
}

// small are all right clocks of the actors a and b with counts up to 2, and dots up to 4.
func small() []api.Clock {
	var l []api.Clock
	for n := range uint64(9) {
		v := slices.DeleteFunc([]api.Entry{{Actor: "a", Count: n % 3}, {Actor: "b", Count: n / 3}}, func(x api.Entry) bool { return x.Count == 0 })
		l = append(l, bare(v))
		for _, d := range entries([]string{"a", "b"}, []uint64{1, 2, 3, 4}) {
			if d.Count > upTo(v, d.Actor) {
				l = append(l, dot(v, d.Actor, d.Count))
			}
		}
	}
	return l
}

// TestSmallClocksAreSetsOfEvents holds Knows, Covers and Ceiling against sets in which each event stands.
func TestSmallClocksAreSetsOfEvents(t *testing.T) {
	for _, a := range small() {
		wantAlone(t, a, nil)
		in := set(a)
		for _, x := range entries([]string{"", "a", "b", "c"}, []uint64{0, 1, 2, 3, 4, 5, most}) {
			if dotted.Knows(a, x.Actor, x.Count) != in[x] {
				t.Fatalf("%#v knows %#v: %v", a, x, !in[x])
			}
		}
		up, _ := dotted.Ceiling(a)
		for _, actor := range []string{"a", "b", "c"} {
			top := uint64(0)
			for x := range in {
				if x.Actor == actor {
					top = max(top, x.Count)
				}
			}
			if vector.Count(up, actor) != top {
				t.Fatalf("of %#v: %#v", a, up)
			}
		}
		for _, b := range small() {
			all := true
			for x := range set(b) {
				all = all && in[x]
			}
			if dotted.Covers(a, b) != all || covering(a, b) != all {
				t.Fatalf("%#v covers %#v: %v, %v; not %v", a, b, dotted.Covers(a, b), covering(a, b), all)
			}
		}
	}
}

// TestAllThreesOfClocks is of all threes of small clocks, and so of all their orders.
func TestAllThreesOfClocks(t *testing.T) {
	all := small()
	var cover [100][100]bool // each pair is asked once
	for i := range all {
		for j := range all {
			cover[i][j] = covering(all[i], all[j])
		}
	}
	for i, a := range all {
		for j, b := range all {
			wantPair(t, a, b)
			wantAll(t, a, b)
			for k, c := range all {
				at := [3]int{i, j, k}
				var want []int
				for x := range at {
					dropped := false
					for y := range at {
						dropped = dropped || x != y && cover[at[y]][at[x]] && (y < x || !cover[at[x]][at[y]])
					}
					if !dropped {
						want = append(want, x)
					}
				}
				wantKeep(t, want, a, b, c)
				wantCeiling(t, ceiled([]api.Clock{a, b, c}), a, b, c)
				if cover[i][j] && cover[j][k] && !dotted.Covers(a, c) {
					t.Fatalf("%#v doesn't cover %#v", a, c)
				}
			}
		}
	}
}

// TestTheSameAnswerEachTime asks for what is gathered in a map many times.
func TestTheSameAnswerEachTime(t *testing.T) {
	for range 300 {
		wantCeiling(t, many(0, 64), dot(many(20, 43), "1063", 3), bare(many(0, 30)), dot(many(10, 30), "1040", 2))
		wantKeep(t, []int{0, 1, 2}, dot(many(20, 43), "1063", 3), bare(many(0, 30)), dot(many(10, 30), "1040", 2))
	}
}

// TestClocksOfAnyParts is of clocks that follow a rule: some right, some not, some long.
func TestClocksOfAnyParts(t *testing.T) {
	x := uint32(1)
	next := func() int {
		x = x*1664525 + 1013904223
		return int(x >> 20)
	}
	actor := func() string {
		if next()%20 == 0 {
			return long(next() % 35)
		}
		return string(rune('a' + next()%(1+next()%80)))
	}
	count := func() uint64 {
		return []uint64{1, 2, 3, 4, most, most - 1, 1 << 63, uint64(next()), 0}[next()%(4+next()%6)]
	}
	clock := func() api.Clock {
		k := api.Clock{}
		for range next() % (1 + next()%80) {
			k.Ctx = append(k.Ctx, api.Entry{Actor: actor(), Count: count()})
		}
		if next()%16 > 0 {
			k.Ctx = slices.DeleteFunc(ceiled([]api.Clock{k}), func(e api.Entry) bool { return e.Count == 0 || e.Actor == "" || len(e.Actor) > 32 })
		}
		if next()%3 > 0 {
			k.Dotted, k.Dot = true, api.Entry{Actor: actor(), Count: count()}
		}
		if k.Dotted && next()%8 > 0 { // most dots stand above their vector, many right behind it
			k.Dot.Count = vector.Count(k.Ctx, k.Dot.Actor) + uint64(1+next()%2*(next()%3))
		}
		if next()%40 == 0 {
			k.Dotted = !k.Dotted
		}
		return k
	}
	right := 0
	for range 4000 {
		l := []api.Clock{clock(), clock(), clock()}
		l = append(l, l[next()%3])
		l[3].Ctx = slices.Clone(l[3].Ctx)
		if n := len(l[3].Ctx); n > 0 {
			l[3].Ctx[next()%n].Count += uint64(next() % 2)
		}
		for _, k := range l {
			wantAlone(t, k, []api.Entry{{Actor: actor(), Count: count()}})
			if checked(k) == api.OK {
				right++
			}
			for _, other := range l {
				wantPair(t, k, other)
			}
		}
		wantAll(t, l[0])
		wantAll(t, l[0], l[3])
		wantAll(t, l...)
	}
	if right < 8000 {
		t.Fatalf("only %d are right", right)
	}
}
