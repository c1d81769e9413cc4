package object_test

import (
	"slices"
	"testing"

	"spence/api"
	"spence/cursor"
	"spence/object"
	"spence/pen"
)

// P16.3: Sort

// orders are all orders of a row.
func orders[T any](l []T) [][]T {
	if len(l) == 0 {
		return [][]T{nil}
	}
	var all [][]T
	for i, x := range l {
		rest := slices.Delete(slices.Clone(l), i, i+1)
		for _, o := range orders(rest) {
			all = append(all, append([]T{x}, o...))
		}
	}
	return all
}

// backwards is a row, the other way round.
func backwards[T any](l []T) []T {
	l = slices.Clone(l)
	slices.Reverse(l)
	return l
}

func TestSortOfRightOnes(t *testing.T) {
	for _, r := range rights() {
		wantSorted(t, r.o.Key, r.o.Sibs, r.o, api.OK)
		wantSorted(t, r.o.Key, backwards(r.o.Sibs), r.o, api.OK)
	}
}

// TestSortOfEachOrder is of all orders of up to five siblings, from some places of the clocks on.
func TestSortOfEachOrder(t *testing.T) {
	for from := 0; from+5 <= len(clocks()); from += 3 {
		for n := 1; n <= 5; n++ {
			want := obj("k", plainSibs(24)[from:from+n]...)
			for _, l := range orders(want.Sibs) {
				wantSorted(t, "k", l, want, api.OK)
			}
		}
	}
}

// TestSortOfSixteen is of 16 siblings in their order, turned, from each on, in the reverse, each two of them swapped, and with gaps.
func TestSortOfSixteen(t *testing.T) {
	for from := 0; from+16 <= len(clocks()); from += 4 {
		want := obj(long(128), plainSibs(24)[from:from+16]...)
		for i := range 16 {
			turned := slices.Concat(want.Sibs[i:], want.Sibs[:i])
			wantSorted(t, long(128), turned, want, api.OK)
			wantSorted(t, long(128), backwards(turned), want, api.OK)
			for j := range i {
				swapped := slices.Clone(want.Sibs)
				swapped[i], swapped[j] = swapped[j], swapped[i]
				wantSorted(t, long(128), swapped, want, api.OK)
			}
		}
		for step := 3; step < 16; step += 2 {
			var l []api.Sibling
			for i := range 16 {
				l = append(l, want.Sibs[i*step%16])
			}
			wantSorted(t, long(128), l, want, api.OK)
		}
	}
}

func TestSortOfHowManySiblings(t *testing.T) {
	wantSorted(t, "k", nil, api.Object{}, api.ErrZero)
	wantSorted(t, "k", []api.Sibling{}, api.Object{}, api.ErrZero)
	if o, e := object.Sort("k"); e != api.ErrZero || !alike(o, api.Object{}) {
		t.Fatalf("%s, error %d", brief(o), e)
	}
	for n := 1; n <= 24; n++ {
		want, e := obj("k", plainSibs(n)...), api.OK
		if n > 16 {
			want, e = api.Object{}, api.ErrLimit
		}
		wantSorted(t, "k", plainSibs(n), want, e)
		wantSorted(t, "k", backwards(plainSibs(n)), want, e)
	}
	wantSorted(t, "k", make([]api.Sibling, 1<<20), api.Object{}, api.ErrLimit)
}

// TestSortOfTwoWithTheSameClock puts a twin of each of some siblings at each place: nothing is told of what else they have.
func TestSortOfTwoWithTheSameClock(t *testing.T) {
	for _, n := range []int{1, 2, 3, 8, 15} {
		for i := range n {
			twin := plainSibs(n)[i]
			for _, x := range []api.Sibling{twin, {Clock: twin.Clock}, {Clock: twin.Clock, Value: "twin"}, {Clock: twin.Clock, Dead: true, Meta: prs("t")}} {
				for at := range n + 1 {
					l := slices.Insert(plainSibs(n), at, clonedSib(x))
					wantSorted(t, "k", l, api.Object{}, api.ErrOrder)
					wantSorted(t, "k", backwards(l), api.Object{}, api.ErrOrder)
				}
			}
		}
	}
	wantSorted(t, "k", make([]api.Sibling, 16), api.Object{}, api.ErrOrder)
	wantSorted(t, "k", make([]api.Sibling, 17), api.Object{}, api.ErrLimit)
}

// TestSortOfClocksThatKnowTheSame is of clocks that are written otherwise: these are not the same ones.
func TestSortOfClocksThatKnowTheSame(t *testing.T) {
	want := obj("k", vals("+a1", "a1", "a1 +a2", "a2", "b1 +a1", "a1 b1")...)
	for _, l := range orders(want.Sibs) {
		wantSorted(t, "k", l, want, api.OK)
	}
}

// TestSortGoesByBytesAlone is of actors, counts and values that rise the other way round.
func TestSortGoesByBytesAlone(t *testing.T) {
	for _, l := range [][]api.Sibling{vals("a256", "a255"), vals("a256", "a129"), vals("+a128", "+a16384", "+a129", "+a255"), vals("b1", "c1", "a1 b1"), {{Clock: dot(nil, "b", 9)}, {Clock: dot(nil, "aa", 1)}}, {{Clock: clk("z9"), Value: "z"}, {Clock: bare([]api.Entry{{Actor: "aa", Count: 1}}), Value: "a"}}} {
		for _, o := range orders(l) {
			wantSorted(t, "k", o, obj("k", l...), api.OK)
		}
	}
}

func TestSortOfRowsThatAreNotRight(t *testing.T) {
	for i, b := range badRows() {
		if b.sort == api.OK {
			sorted := obj(keys()[i%len(keys())].key, plainSorted(b.l)...)
			wantChecked(t, sorted, api.OK)
			wantSorted(t, sorted.Key, b.l, sorted, api.OK)
			continue
		}
		wantSorted(t, "k", b.l, api.Object{}, b.sort)
	}
}

// TestSortTellsTheFirstFromTheLeft puts two siblings that aren't right among others, in both orders: the first one's error is told, as they came, wherever they would stand when sorted, and whether or not two others have the same clock.
func TestSortTellsTheFirstFromTheLeft(t *testing.T) {
	bad := badSibs()
	for _, a := range bad {
		for _, b := range bad {
			wantSorted(t, "k", []api.Sibling{a.x, b.x}, api.Object{}, a.e)
			wantSorted(t, "k", append(vals("b1", "a1"), a.x, b.x), api.Object{}, a.e)
			wantSorted(t, "k", append(vals("b1", "b1"), b.x, a.x), api.Object{}, b.e)
		}
		for at := range 16 {
			wantSorted(t, "k", slices.Insert(plainSibs(15), at, a.x), api.Object{}, a.e)
			wantSorted(t, "k", slices.Insert(backwards(plainSibs(15)), at, a.x), api.Object{}, a.e)
			wantSorted(t, "k", slices.Insert(spoilt(plainSibs(15), 7, plainSibs(8)[6]), at, a.x), api.Object{}, a.e)
			wantSorted(t, "k", slices.Insert(plainSibs(16), at, a.x), api.Object{}, api.ErrLimit)
		}
	}
}

func TestSortOfKeysThatAreNotRight(t *testing.T) {
	some, bad := each(rights(), 23), badRows()
	for _, k := range badKeys() {
		wantSorted(t, k.key, nil, api.Object{}, k.e)
		wantSorted(t, k.key, make([]api.Sibling, 17), api.Object{}, k.e)
		for _, r := range some {
			wantSorted(t, k.key, r.o.Sibs, api.Object{}, k.e)
		}
		for _, b := range bad {
			wantSorted(t, k.key, b.l, api.Object{}, k.e)
		}
	}
	for n, e := range map[int]api.Errno{0: api.ErrEmpty, 1: api.OK, 128: api.OK, 129: api.ErrLimit, 1 << 20: api.ErrLimit} {
		want := obj(long(n), vals("a1", "b1")...)
		if e != api.OK {
			want = api.Object{}
		}
		wantSorted(t, long(n), vals("b1", "a1"), want, e)
	}
}

// TestSortIsNewMemory is of siblings whose lists share their memory: in the answer each has its own, and it shares none with what was handed in.
func TestSortIsNewMemory(t *testing.T) {
	v, m := vec("a1 b1"), prs("t1 u2")
	l := []api.Sibling{{Clock: dot(v, "c", 1), Meta: m}, {Clock: dot(v, "b", 2), Meta: m}, {Clock: bare(v), Meta: m[:1]}, {Clock: bare(v[:1]), Meta: m}}
	want, _ := object.Sort("k", backwards(l)...)
	want = cloned(want)
	for i := range l {
		o, e := object.Sort("k", l...)
		if e != api.OK || !alike(o, want) {
			t.Fatalf("%s, error %d", brief(o), e)
		}
		spoilSib(o.Sibs[i])
		o.Sibs[i] = want.Sibs[i]
		if !alike(o, want) || !slices.Equal(v, vec("a1 b1")) || !slices.Equal(m, prs("t1 u2")) {
			t.Fatalf("at %d: %s, %v, %v", i, brief(o), v, m)
		}
	}
	o, _ := object.Sort("k", l...)
	spoil(obj("k", l...))
	if !alike(o, want) {
		t.Fatalf("%s became %s", brief(want), brief(o))
	}
}

// P16.3: Same

// changes are changes of one part each, of an object with three siblings.
func changes() []func(*api.Object) {
	l := []func(*api.Object){
		func(o *api.Object) {},
		func(o *api.Object) { o.Key = "l" },
		func(o *api.Object) { o.Key = "" },
		func(o *api.Object) { o.Key = "k\x00" },
		func(o *api.Object) { o.Sibs = nil },
		func(o *api.Object) { o.Sibs = o.Sibs[:1] },
		func(o *api.Object) { o.Sibs = o.Sibs[:2] },
		func(o *api.Object) { o.Sibs = o.Sibs[1:] },
		func(o *api.Object) { o.Sibs = append(o.Sibs, api.Sibling{}) },
		func(o *api.Object) { o.Sibs = append(o.Sibs, clonedSib(o.Sibs[2])) },
		func(o *api.Object) { o.Sibs[0], o.Sibs[1] = o.Sibs[1], o.Sibs[0] },
		func(o *api.Object) { o.Sibs[1], o.Sibs[2] = o.Sibs[2], o.Sibs[1] },
		func(o *api.Object) { o.Sibs[2], o.Sibs[0] = o.Sibs[0], o.Sibs[2] },
		func(o *api.Object) { o.Sibs[1] = clonedSib(o.Sibs[0]) },
	}
	for i := range 3 {
		for _, change := range sibChanges() {
			l = append(l, func(o *api.Object) { change(&o.Sibs[i]) })
		}
	}
	return l
}

// sibChanges are changes of one part each of a sibling that has one of each.
func sibChanges() []func(*api.Sibling) {
	return []func(*api.Sibling){
		func(x *api.Sibling) { x.Clock.Ctx[0].Actor = "A" },
		func(x *api.Sibling) { x.Clock.Ctx[1].Count = 7 },
		func(x *api.Sibling) { x.Clock.Ctx = x.Clock.Ctx[:1] },
		func(x *api.Sibling) { x.Clock.Ctx = append(x.Clock.Ctx, vec("z1")...) },
		func(x *api.Sibling) { x.Clock.Ctx = nil },
		func(x *api.Sibling) { x.Clock.Dotted = false },
		func(x *api.Sibling) { x.Clock.Dot.Actor = "y" },
		func(x *api.Sibling) { x.Clock.Dot.Count = 99 },
		func(x *api.Sibling) { x.Clock.Dot = api.Entry{} },
		func(x *api.Sibling) { x.Meta[0].Name = "T" },
		func(x *api.Sibling) { x.Meta[1].Value = "22" },
		func(x *api.Sibling) { x.Meta = x.Meta[:1] },
		func(x *api.Sibling) { x.Meta = append(x.Meta, prs("z")...) },
		func(x *api.Sibling) { x.Meta = nil },
		func(x *api.Sibling) { x.Dead = !x.Dead },
		func(x *api.Sibling) { x.Value = "other" },
		func(x *api.Sibling) { x.Value += "\x00" },
		func(x *api.Sibling) { x.Value = "" },
	}
}

// changed is an object in new memory, one part of which is another one.
func changed(i int) api.Object {
	o := obj("k", sib("a1 b2 +c1", "t1 u2", false, "v"), sib("a1 b3 +b4", "t2 u1", true, "w"), sib("a2 b2 +d5", "t u2", false, "v"))
	changes()[i](&o)
	return o
}

func TestSameOfWhatDiffersInOnePart(t *testing.T) {
	for i := range changes() {
		for j := range changes() {
			wantSame(t, changed(i), changed(j), i == j)
		}
	}
	wantChecked(t, changed(0), api.OK)
}

func TestSameOfNilAndEmptyLists(t *testing.T) {
	for _, a := range [][]api.Sibling{nil, {}, make([]api.Sibling, 0, 9), vals("a1")[:0]} {
		for _, b := range [][]api.Sibling{nil, {}, make([]api.Sibling, 0, 9), vals("a1")[:0]} {
			wantSame(t, obj("k", a...), obj("k", b...), true)
			wantSame(t, obj("k", a...), obj("l", b...), false)
			wantSame(t, api.Object{Sibs: a}, api.Object{Sibs: b}, true)
			wantSame(t, api.Object{Sibs: a}, api.Object{Sibs: make([]api.Sibling, 1)}, false)
		}
	}
	for _, v := range [][]api.Entry{nil, {}, make([]api.Entry, 0, 9), vec("a1")[:0]} {
		for _, m := range [][]api.Pair{nil, {}, make([]api.Pair, 0, 9), prs("t1")[:0]} {
			wantSame(t, obj("k", api.Sibling{Clock: bare(v), Meta: m}, sib("a1", "t", true, "v")), obj("k", api.Sibling{}, sib("a1", "t", true, "v")), true)
			wantSame(t, obj("k", api.Sibling{Clock: bare(v), Meta: make([]api.Pair, 1)}), obj("k", api.Sibling{Meta: m}), false)
		}
	}
}

func TestSameOfRightOnes(t *testing.T) {
	all := append(few(), each(twos(), 5)...)
	for _, a := range all {
		for _, b := range all {
			wantSame(t, a.o, cloned(b.o), a.s == b.s)
		}
	}
	for _, r := range rights() {
		wantSame(t, r.o, cloned(r.o), true)
		o := cloned(r.o)
		o.Key += "x"
		wantSame(t, r.o, o, false)
		o = cloned(r.o)
		o.Sibs[len(o.Sibs)-1].Value += "x"
		wantSame(t, r.o, o, false)
	}
}

func TestSameOfWhatIsNotRight(t *testing.T) {
	for _, f := range faults() {
		wantSame(t, f.o, cloned(f.o), true)
		o := cloned(f.o)
		o.Key += "x"
		wantSame(t, f.o, o, false)
		o = cloned(f.o)
		o.Sibs = append(o.Sibs, api.Sibling{})
		wantSame(t, f.o, o, false)
	}
	some := someFaults()
	for _, a := range some {
		for _, b := range some {
			wantSame(t, a.o, cloned(b.o), alike(a.o, b.o))
		}
	}
	wantSame(t, api.Object{}, api.Object{}, true)
	wantSame(t, api.Object{Sibs: make([]api.Sibling, 100000)}, api.Object{Sibs: make([]api.Sibling, 100000)}, true)
	wantSame(t, api.Object{Sibs: make([]api.Sibling, 100000)}, api.Object{Sibs: make([]api.Sibling, 100001)}, false)
}

// TestSameIsOfPartsNotOfWhatIsKnown is of clocks that know the same, of the same siblings in another order, and of bytes that stand in another part.
func TestSameIsOfPartsNotOfWhatIsKnown(t *testing.T) {
	wantSame(t, obj("k", sib("a1", "", false, "v")), obj("k", sib("+a1", "", false, "v")), false)
	wantSame(t, obj("k", vals("a1", "b1")...), obj("k", vals("b1", "a1")...), false)
	wantSame(t, obj("kv", sib("", "", false, "")), obj("k", sib("", "", false, "v")), false)
	wantSame(t, obj("k", sib("", "tv", false, "")), obj("k", sib("", "t", false, "v")), false)
	wantSame(t, obj("k", sib("", "", false, "v"), sib("", "", false, "")), obj("k", sib("", "", false, ""), sib("", "", false, "v")), false)
}

// P16.3: Copy

// inside is an object whose lists stand in the midst of longer ones, and one that has the siblings' longer lists: what is behind them would be told, were it read or written.
func inside(o api.Object) (api.Object, api.Object) {
	part, whole := cloned(o), cloned(o)
	for i, x := range part.Sibs {
		v := append(slices.Clone(x.Clock.Ctx), vec("y8 z9")...)
		m := append(slices.Clone(x.Meta), prs("y8 z9 zz")...)
		whole.Sibs[i].Clock.Ctx, part.Sibs[i].Clock.Ctx = v, v[:len(x.Clock.Ctx)]
		whole.Sibs[i].Meta, part.Sibs[i].Meta = m, m[:len(x.Meta)]
	}
	part.Sibs = append(part.Sibs, vals("y8", "z9")...)[:len(o.Sibs)]
	return part, whole
}

// wantInside holds an object that stands inside of longer lists against what it was, and those against what they were.
func wantInside(t *testing.T, part, whole, was, wasWhole api.Object) {
	t.Helper()
	n := len(part.Sibs)
	behind := obj("", part.Sibs[n:n+2]...)
	if !alike(part, was) || !alike(whole, wasWhole) || !alike(behind, obj("", vals("y8", "z9")...)) {
		t.Fatalf("%s became %s; %s became %s; behind it: %s", brief(was), brief(part), brief(wasWhole), brief(whole), brief(behind))
	}
}

// spoilSib writes over a sibling's lists, and over what lies behind them in their memory.
func spoilSib(x api.Sibling) {
	for i := range x.Clock.Ctx[:cap(x.Clock.Ctx)] {
		x.Clock.Ctx[:cap(x.Clock.Ctx)][i] = api.Entry{Actor: "spoiled"}
	}
	for i := range x.Meta[:cap(x.Meta)] {
		x.Meta[:cap(x.Meta)][i] = api.Pair{Name: "spoiled", Value: "too"}
	}
}

// spoil writes over an object's siblings' lists, over the siblings, and over what lies behind them.
func spoil(o api.Object) {
	for _, x := range o.Sibs {
		spoilSib(x)
	}
	for i := range o.Sibs[:cap(o.Sibs)] {
		o.Sibs[:cap(o.Sibs)][i] = sib("z9", "z9", true, "spoiled")
	}
}

// anyObjects are objects, right and not.
func anyObjects() []api.Object {
	var l []api.Object
	for _, r := range slices.Concat(each(singles(), 9), each(twos(), 3), longs(), mediums(), larges()) {
		l = append(l, r.o)
	}
	for _, f := range append(each(faults(), 5), someFaults()...) {
		l = append(l, f.o)
	}
	for i := range changes() {
		l = append(l, changed(i))
	}
	return append(l, api.Object{}, obj("", vals("a1", "a1")...), obj(long(129), make([]api.Sibling, 1000)...), obj("k", api.Sibling{Clock: bare(entries(1000)), Meta: many(1000, "v")}, api.Sibling{Clock: stray(entries(65), "a", 1), Meta: make([]api.Pair, 9), Dead: true, Value: tooGreatValue}))
}

func TestCopy(t *testing.T) {
	for _, o := range anyObjects() {
		q := object.Copy(o)
		if !alike(o, q) {
			t.Fatalf("%s is no copy of %s", brief(q), brief(o))
		}
		wantSame(t, o, q, true)
		wantChecked(t, q, object.Check(o))
	}
}

func TestCopyOfNilAndEmptyLists(t *testing.T) {
	for _, l := range [][]api.Sibling{nil, {}, make([]api.Sibling, 0, 9), vals("a1", "b1")[:0]} {
		o := api.Object{Key: "k", Sibs: l}
		q := object.Copy(o)
		if !alike(q, obj("k")) {
			t.Fatalf("%s of %s", brief(q), brief(o))
		}
		grown := append(q.Sibs, vals("y8")...)
		o.Sibs = append(o.Sibs, vals("z9")...)
		if !alike(obj("", grown...), obj("", vals("y8")...)) || !alike(o, obj("k", vals("z9")...)) {
			t.Fatalf("%s, %s", brief(obj("", grown...)), brief(o))
		}
	}
	for _, v := range [][]api.Entry{nil, {}, make([]api.Entry, 0, 9), vec("a1 b2")[:0]} {
		for _, m := range [][]api.Pair{nil, {}, make([]api.Pair, 0, 9), prs("t1 u2")[:0]} {
			q := object.Copy(obj("k", api.Sibling{Clock: dot(v, "a", 1), Meta: m}, sib("b1", "", false, "")))
			if !alike(q, obj("k", sib("+a1", "", false, ""), sib("b1", "", false, ""))) {
				t.Fatalf("%s", brief(q))
			}
			vz, mz := append(v, vec("z9")...), append(m, prs("z9")...)
			q.Sibs[0].Clock.Ctx, q.Sibs[0].Meta = append(q.Sibs[0].Clock.Ctx, vec("y8")...), append(q.Sibs[0].Meta, prs("y8")...)
			if vz[0].Actor != "z" || mz[0].Name != "z" || !alike(q, obj("k", sib("y8 +a1", "y8", false, ""), sib("b1", "", false, ""))) {
				t.Fatalf("%v, %v, %s", vz, mz, brief(q))
			}
		}
	}
}

// TestCopyIsNewMemory writes over the one's siblings, over their lists, and over what lies behind them, and looks at the other one.
func TestCopyIsNewMemory(t *testing.T) {
	for _, o := range anyObjects() {
		part, whole := inside(o)
		was := cloned(whole)
		two, three := object.Copy(part), object.Copy(part)
		spoil(two)
		wantInside(t, part, whole, o, was)
		if !alike(three, o) {
			t.Fatalf("%s became %s", brief(o), brief(three))
		}
		spoil(part)
		spoil(whole)
		if !alike(three, o) {
			t.Fatalf("%s became %s", brief(o), brief(three))
		}
	}
}

// TestCopyOfListsThatShareMemory writes over one sibling's lists of the copy, and looks at the others'.
func TestCopyOfListsThatShareMemory(t *testing.T) {
	v, m := vec("a1 b1 c1"), prs("t1 u2 v3")
	o := obj("k", api.Sibling{Clock: bare(v), Meta: m}, api.Sibling{Clock: bare(v), Meta: m}, api.Sibling{Clock: bare(v[:2]), Meta: m[:2]}, api.Sibling{Clock: bare(v[1:]), Meta: m[1:]})
	want := cloned(o)
	for i := range o.Sibs {
		q := object.Copy(o)
		spoilSib(q.Sibs[i])
		q.Sibs[i] = want.Sibs[i]
		if !alike(q, want) || !alike(o, want) {
			t.Fatalf("at %d: %s, %s", i, brief(q), brief(o))
		}
	}
}

// TestCopyMayBeGrown grows the copy, and what was copied: neither is in the other one's way.
func TestCopyMayBeGrown(t *testing.T) {
	one, _ := inside(obj("k", sib("a1", "t1", false, "v")))
	two := object.Copy(one)
	three := object.Copy(two)
	two.Sibs, three.Sibs = append(two.Sibs, vals("p5")...), append(three.Sibs, vals("q6")...)
	grow := func(o api.Object, clock, meta string) {
		x := &o.Sibs[0]
		x.Clock.Ctx, x.Meta = append(x.Clock.Ctx, vec(clock)...), append(x.Meta, prs(meta)...)
	}
	grow(two, "p5", "p5")
	grow(three, "q6", "q6")
	one.Sibs = append(one.Sibs, vals("r7")...)
	grow(one, "r7", "r7")
	for name, o := range map[string]api.Object{"r7": one, "p5": two, "q6": three} {
		if want := obj("k", sib("a1 "+name, "t1 "+name, false, "v"), vals(name)[0]); !alike(o, want) {
			t.Fatalf("%s, not %s", brief(o), brief(want))
		}
	}
}

// R4

func TestWhatIsHandedInStaysAsItWas(t *testing.T) {
	for _, o := range anyObjects() {
		part, whole := inside(o)
		was := cloned(whole)
		other, otherWhole := inside(changed(0))
		otherWas := cloned(otherWhole)
		text, e := object.Encode(part)
		p := pen.New(1 << 24)
		object.Check(part)
		object.Put(p, part)
		object.Same(part, other)
		object.Same(other, part)
		object.Copy(part)
		sorted, f := object.Sort(part.Key, part.Sibs...)
		wantInside(t, part, whole, o, was)
		wantInside(t, other, otherWhole, changed(0), otherWas)
		wantEncoded(t, part, text, e)
		wantSorted(t, part.Key, part.Sibs, sorted, f)
		end, _ := p.End()
		kept := cloned(sorted)
		spoil(part)
		if again, _ := p.End(); again != end || !alike(sorted, kept) {
			t.Fatalf("the pen had %.60q, and has %.60q; %s became %s", end, again, brief(kept), brief(sorted))
		}
	}
}

// TestSortLeavesWhatIsHandedIn is of rows that aren't in their order: they keep theirs, and what lies behind them, whether or not there is an error.
func TestSortLeavesWhatIsHandedIn(t *testing.T) {
	for _, r := range append(each(twos(), 2), longs()...) {
		for _, l := range [][]api.Sibling{backwards(r.o.Sibs), append(backwards(r.o.Sibs), r.o.Sibs[0]), append(backwards(r.o.Sibs), sib("a0", "", false, ""))} {
			part, whole := inside(obj(r.o.Key, l...))
			was := cloned(whole)
			o, _ := object.Sort(part.Key, part.Sibs...)
			wantInside(t, part, whole, obj(r.o.Key, l...), was)
			spoil(o)
			wantInside(t, part, whole, obj(r.o.Key, l...), was)
		}
	}
}

// TestWhatLiesBehindIsNotRead is of rows and lists with what isn't right behind their lengths.
func TestWhatLiesBehindIsNotRead(t *testing.T) {
	l := append(vals("a1", "b1"), sib("a0", "", false, ""))
	l[0].Clock.Ctx, l[0].Meta = vec("a1 a0")[:1], prs("u1 t2")[:1]
	o := obj("k", l[:2]...)
	s := "\x01k\x02" + "\x01\x01a\x01\x00\x01\x01u\x011\x00\x02a1" + "\x01\x01b\x01\x00\x00\x00\x02b1"
	wantChecked(t, o, api.OK)
	wantEncoded(t, o, s, api.OK)
	wantSorted(t, "k", l[:2], o, api.OK)
	wantSame(t, o, obj("k", sib("a1", "u1", false, "a1"), vals("b1")[0]), true)
	wantSame(t, o, obj("k", l...), false)
	p := pen.New(len(s))
	object.Put(p, o)
	wantPen(t, p, s, len(s), api.OK)
}

func TestWhatIsReadIsNew(t *testing.T) {
	for _, r := range slices.Concat(few(), mediums(), larges()) {
		c := cursor.New(r.s + r.s + r.s)
		a, b := object.Take(c), object.Take(c)
		d, _ := object.Decode(r.s)
		for i := range a.Sibs { // no two lists of one answer share any memory
			spoilSib(a.Sibs[i])
			a.Sibs[i] = r.o.Sibs[i]
			if !alike(a, r.o) {
				t.Fatalf("at %d: %s", i, brief(a))
			}
		}
		spoil(d)
		again, _ := object.Decode(r.s)
		if !alike(b, r.o) || !alike(again, r.o) || !alike(object.Take(c), r.o) {
			t.Fatalf("of %.60q: %s, %s", r.s, brief(b), brief(again))
		}
		wantCursor(t, r.s, c, 3*len(r.s), api.OK)
	}
}
