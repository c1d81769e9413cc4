package vector_test

import (
	"math/big"
	"slices"
	"strings"
	"testing"

	"spence/api"
	"spence/vector"
)

// rows are all rows of up to k elements.
func rows[T any](of []T, k int) [][]T {
	all := [][]T{nil}
	for from := 0; k > 0; k-- {
		to := len(all)
		for _, row := range all[from:to] {
			for _, x := range of {
				all = append(all, append(append([]T{}, row...), x))
			}
		}
		from = to
	}
	return all
}

// checked is what the chapter's words say of a list: each error, looked for on its own, with its place; the first place's, and of that the first named.
func checked(v []api.Entry) api.Errno {
	if len(v) > 64 {
		return api.ErrLimit
	}
	for i, x := range v {
		for _, c := range []struct {
			holds bool
			e     api.Errno
		}{
			{len(x.Actor) > 32, api.ErrLimit},
			{len(x.Actor) == 0, api.ErrEmpty},
			{i > 0 && strings.Compare(v[max(i, 1)-1].Actor, x.Actor) >= 0, api.ErrOrder},
			{x.Count == 0, api.ErrZero},
		} {
			if c.holds {
				return c.e
			}
		}
	}
	return api.OK
}

// knows tells whether a right vector knows the event of an actor with that number: it walks from the right, so that it is no copy of the program.
func knows(v []api.Entry, actor string, n uint64) bool {
	for _, x := range slices.Backward(v) {
		if x.Actor == actor {
			return n <= x.Count
		}
	}
	return false
}

// descends tells whether each event that b knows is known by a. An actor's last one is enough, since who knows that knows all ahead.
func descends(a, b []api.Entry) bool {
	return !slices.ContainsFunc(b, func(x api.Entry) bool { return !knows(a, x.Actor, x.Count) })
}

// joined is the vector of the actors of all, in their order, each with the greatest count of which one of the vectors knows the event.
func joined(l [][]api.Entry) []api.Entry {
	var all []api.Entry
	for _, v := range l {
		all = append(all, v...)
	}
	slices.SortFunc(all, func(x, y api.Entry) int {
		if c := strings.Compare(x.Actor, y.Actor); c != 0 {
			return c
		}
		return new(big.Int).SetUint64(y.Count).Cmp(new(big.Int).SetUint64(x.Count)) // the greatest first
	})
	return slices.CompactFunc(all, func(x, y api.Entry) bool { return x.Actor == y.Actor })
}

// wantPair holds Descends and Order of two lists against the chapter's words.
func wantPair(t *testing.T, a, b []api.Entry) {
	t.Helper()
	if checked(a) != api.OK || checked(b) != api.OK {
		wantNoOrder(t, a, b)
		return
	}
	want := 2
	switch {
	case descends(a, b) && descends(b, a):
		want = 0
	case descends(a, b):
		want = 1
	case descends(b, a):
		want = -1
	}
	wantOrder(t, a, b, want)
	if vector.Same(a, b) != (want == 0) { // right vectors that know the same are the same
		t.Fatalf("%#v and %#v: order %d, same %v", a, b, want, vector.Same(a, b))
	}
}

// wantAll holds Join of lists against the chapter's words.
func wantAll(t *testing.T, l ...[]api.Entry) {
	t.Helper()
	for _, v := range l {
		if checked(v) != api.OK {
			wantNoJoin(t, api.ErrArg, l...)
			return
		}
	}
	want := joined(l)
	if len(want) > 64 {
		wantNoJoin(t, api.ErrLimit, l...)
		return
	}
	wantJoin(t, want, l...)
	for _, v := range l {
		if !vector.Descends(want, v) {
			t.Fatalf("%#v doesn't descend from %#v", want, v)
		}
	}
}

// wantNext holds Event of a list and an actor against the chapter's words.
func wantNext(t *testing.T, v []api.Entry, actor string) {
	t.Helper()
	if checked(v) != api.OK || len(actor) < 1 || len(actor) > 32 {
		wantNoEvent(t, api.ErrArg, v, actor)
		return
	}
	at, there := slices.BinarySearchFunc(v, actor, func(x api.Entry, s string) int { return strings.Compare(x.Actor, s) })
	switch {
	case there && v[at].Count == most:
		wantNoEvent(t, api.ErrOver, v, actor)
	case there:
		wantEvent(t, with(v, at, api.Entry{Actor: actor, Count: v[at].Count + 1}), v, actor)
	case len(v) == 64:
		wantNoEvent(t, api.ErrLimit, v, actor)
	default:
		wantEvent(t, slices.Insert(slices.Clone(v), at, api.Entry{Actor: actor, Count: 1}), v, actor)
	}
	if next, e := vector.Event(v, actor); e == api.OK {
		wantOrder(t, next, v, 1)
		if vector.Check(next) != api.OK || vector.Count(next, actor) != vector.Count(v, actor)+1 {
			t.Fatalf("of %#v and %#v: %#v", v, actor, next)
		}
	}
}

// wantAlone holds Check and Count of a list against the chapter's words.
func wantAlone(t *testing.T, v []api.Entry, actors []string) {
	t.Helper()
	if e := vector.Check(v); e != checked(v) {
		t.Fatalf("of %#v: error %d, not %d", v, e, checked(v))
	}
	for _, actor := range actors {
		want := uint64(0)
		if at := slices.IndexFunc(v, func(x api.Entry) bool { return x.Actor == actor }); at >= 0 {
			want = v[at].Count
		}
		if n := vector.Count(v, actor); n != want {
			t.Fatalf("of %#v and %#v: %d, not %d", v, actor, n, want)
		}
	}
}

// entries are all entries of some actors and counts.
func entries(actors []string, counts []uint64) []api.Entry {
	var l []api.Entry
	for _, s := range actors {
		for _, n := range counts {
			l = append(l, api.Entry{Actor: s, Count: n})
		}
	}
	return l
}

// TestAllRowsOfEntries is of all lists of up to four entries, right or not.
func TestAllRowsOfEntries(t *testing.T) {
	actors := []string{"", "a", "a\x00", "b", "\xff", long(33)}
	for _, v := range rows(entries(actors, []uint64{0, 1, most}), 4) {
		wantAlone(t, v, actors)
	}
	for _, v := range rows(entries(actors, []uint64{0, 1, most}), 3) {
		for _, actor := range append(actors, "0", "aa", "c", long(32)) {
			wantNext(t, v, actor)
		}
	}
}

// TestAllPairsOfLists is of all pairs of lists of up to two entries, right or not.
func TestAllPairsOfLists(t *testing.T) {
	all := rows(entries([]string{"", "a", "b", "ba", long(33)}, []uint64{0, 1, 2}), 2)
	for _, a := range all {
		for _, b := range all {
			wantPair(t, a, b)
			wantAll(t, a, b)
			if vector.Same(a, b) != (len(a) == len(b) && joinedTexts(a) == joinedTexts(b)) {
				t.Fatalf("%#v and %#v: %v", a, b, vector.Same(a, b))
			}
		}
	}
}

// joinedTexts is a list as one text, which no other list of these short ones has.
func joinedTexts(v []api.Entry) string {
	s := ""
	for _, x := range v {
		s += x.Actor + "/" + new(big.Int).SetUint64(x.Count).String() + ";"
	}
	return s
}

// small are all vectors of the actors a, b and c with counts up to 2.
func small() [][]api.Entry {
	var l [][]api.Entry
	for n := range uint64(27) {
		var v []api.Entry
		for _, x := range []api.Entry{{Actor: "a", Count: n % 3}, {Actor: "b", Count: n / 3 % 3}, {Actor: "c", Count: n / 9}} {
			if x.Count > 0 {
				v = append(v, x)
			}
		}
		l = append(l, v)
	}
	return l
}

// TestAllThreesOfVectors is of all threes of small vectors: Join of them in each order and in two steps, and P10.4.
func TestAllThreesOfVectors(t *testing.T) {
	all := small()
	for _, a := range all {
		for _, b := range all {
			wantPair(t, a, b)
			ab, _ := vector.Join(a, b)
			for _, c := range all {
				wantAll(t, a, b, c)
				wantJoin(t, joined([][]api.Entry{a, b, c}), ab, c)
				wantJoin(t, joined([][]api.Entry{a, b, c}), c, b, a)
				if vector.Descends(c, ab) != (vector.Descends(c, a) && vector.Descends(c, b)) {
					t.Fatalf("%#v descends from %#v: %v", c, ab, vector.Descends(c, ab))
				}
			}
		}
	}
}

// TestTheSameAnswerEachTime asks for what is gathered in a map many times.
func TestTheSameAnswerEachTime(t *testing.T) {
	for range 300 {
		wantJoin(t, many(0, 64), many(20, 44), many(0, 30), many(10, 30))
		wantEvent(t, append(many(0, 63), vec("z1")...), many(0, 63), "z")
	}
}

// TestListsOfAnyEntries is of lists that follow a rule: some right, some not, some long.
func TestListsOfAnyEntries(t *testing.T) {
	x := uint32(1)
	next := func() int {
		x = x*1664525 + 1013904223
		return int(x >> 20)
	}
	actor := func() string {
		b := make([]byte, next()%35)
		if next()%8 > 0 {
			b = b[:min(len(b), 1+next()%2)]
		}
		for i := range b {
			b[i] = byte(next())
		}
		return string(b)
	}
	list := func() []api.Entry {
		l := make([]api.Entry, next()%(1+next()%70))
		for i := range l {
			l[i] = api.Entry{Actor: actor(), Count: []uint64{1, 2, 3, most, most - 1, 1 << 63, uint64(next()), 0}[next()%8]}
		}
		if next()%4 == 0 {
			return l
		}
		l = joined([][]api.Entry{l})
		l = slices.DeleteFunc(l, func(e api.Entry) bool { return e.Count == 0 || e.Actor == "" || len(e.Actor) > 32 })
		if len(l) > 0 && next()%6 == 0 {
			l[next()%len(l)] = api.Entry{Actor: actor(), Count: uint64(next() % 3)}
		}
		return l
	}
	for range 20000 {
		a, b, c := list(), list(), list()
		var actors []string
		for _, e := range a {
			actors = append(actors, e.Actor)
		}
		actors = append(actors, actor(), "")
		wantAlone(t, a, actors)
		wantPair(t, a, b)
		wantPair(t, a, a)
		wantAll(t, a)
		wantAll(t, a, b)
		wantAll(t, a, b, c, a)
		wantNext(t, a, actor())
		wantNext(t, a, actors[next()%len(actors)])
		if j, e := vector.Join(a, b); e == api.OK {
			wantPair(t, j, a)
			wantPair(t, c, j)
			if vector.Check(c) == api.OK && vector.Descends(c, j) != (vector.Descends(c, a) && vector.Descends(c, b)) {
				t.Fatalf("%#v descends from %#v: %v", c, j, vector.Descends(c, j))
			}
			d, e := vector.Join(a, b, c)
			if e == api.OK && !vector.Descends(d, j) {
				t.Fatalf("%#v doesn't descend from %#v", d, j)
			}
		}
	}
}
