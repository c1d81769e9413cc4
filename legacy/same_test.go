package legacy_test

import (
	"slices"
	"testing"

	"spence/api"
	"spence/legacy"
)

// orders are all orders of a row.
func orders[T any](l []T) [][]T {
	if len(l) == 0 {
		return [][]T{nil}
	}
	var all [][]T
	for i, x := range l {
		rest := slices.Delete(slices.Clone(l), i, i+1)
		for _, o := range orders(rest) {
			all = append(all, append([]T{x}, o...))
		}
	}
	return all
}

// backwards is a row, the other way round.
func backwards[T any](l []T) []T {
	l = slices.Clone(l)
	slices.Reverse(l)
	return l
}

// changes are changes of one part each, of an old object with three siblings.
func changes() []func(*api.Old) {
	l := []func(*api.Old){
		func(o *api.Old) {},
		func(o *api.Old) { o.Key = "l" },
		func(o *api.Old) { o.Key = "" },
		func(o *api.Old) { o.Key = "k\x00" },
		func(o *api.Old) { o.Sibs = nil },
		func(o *api.Old) { o.Sibs = o.Sibs[:1] },
		func(o *api.Old) { o.Sibs = o.Sibs[:2] },
		func(o *api.Old) { o.Sibs = o.Sibs[1:] },
		func(o *api.Old) { o.Sibs = append(o.Sibs, api.OldSib{}) },
		func(o *api.Old) { o.Sibs = append(o.Sibs, clonedSib(o.Sibs[2])) },
		func(o *api.Old) { o.Sibs[0], o.Sibs[1] = o.Sibs[1], o.Sibs[0] },
		func(o *api.Old) { o.Sibs[1], o.Sibs[2] = o.Sibs[2], o.Sibs[1] },
		func(o *api.Old) { o.Sibs[2], o.Sibs[0] = o.Sibs[0], o.Sibs[2] },
		func(o *api.Old) { o.Sibs[1] = clonedSib(o.Sibs[0]) },
	}
	for i := range 3 {
		for _, change := range sibChanges() {
			l = append(l, func(o *api.Old) { change(&o.Sibs[i]) })
		}
	}
	return l
}

// sibChanges are changes of one part each of a sibling that has two entries.
func sibChanges() []func(*api.OldSib) {
	return []func(*api.OldSib){
		func(x *api.OldSib) { x.Clock[0].Actor = "A" },
		func(x *api.OldSib) { x.Clock[1].Count = 7 },
		func(x *api.OldSib) { x.Clock[0].Count = 0 },
		func(x *api.OldSib) { x.Clock = x.Clock[:1] },
		func(x *api.OldSib) { x.Clock = x.Clock[1:] },
		func(x *api.OldSib) { x.Clock = append(x.Clock, vec("z1")...) },
		func(x *api.OldSib) { x.Clock = nil },
		func(x *api.OldSib) { x.Dead = !x.Dead },
		func(x *api.OldSib) { x.Value = "other" },
		func(x *api.OldSib) { x.Value += "\x00" },
		func(x *api.OldSib) { x.Value = "" },
		func(x *api.OldSib) { x.Value = tooGreatValue },
	}
}

// changed is an old object in new memory, one part of which is another one.
func changed(i int) api.Old {
	o := old("k", sib("a1 b2", false, "v"), sib("a1 b3", true, "w"), sib("a2 b2", false, "v"))
	changes()[i](&o)
	return o
}

// P17.3: Same

func TestSameOfWhatDiffersInOnePart(t *testing.T) {
	for i := range changes() {
		for j := range changes() {
			wantSame(t, changed(i), changed(j), i == j)
		}
	}
	wantChecked(t, changed(0), api.OK)
}

func TestSameOfNilAndEmptyLists(t *testing.T) {
	for _, a := range [][]api.OldSib{nil, {}, make([]api.OldSib, 0, 9), vals("a1")[:0]} {
		for _, b := range [][]api.OldSib{nil, {}, make([]api.OldSib, 0, 9), vals("a1")[:0]} {
			wantSame(t, old("k", a...), old("k", b...), true)
			wantSame(t, old("k", a...), old("l", b...), false)
			wantSame(t, api.Old{Sibs: a}, api.Old{Sibs: b}, true)
			wantSame(t, api.Old{Sibs: a}, api.Old{Sibs: make([]api.OldSib, 1)}, false)
		}
	}
	for _, v := range [][]api.Entry{nil, {}, make([]api.Entry, 0, 9), vec("a1")[:0]} {
		for _, w := range [][]api.Entry{nil, {}, make([]api.Entry, 0, 9), vec("a1")[:0]} {
			a, b := old("k", api.OldSib{Clock: v}, sib("a1", true, "v")), old("k", api.OldSib{Clock: w}, sib("a1", true, "v"))
			wantSame(t, a, b, true)
			wantAlike(t, a, b, true)
			wantAlike(t, a, old("k", b.Sibs[1], b.Sibs[0]), true)
			wantChecked(t, old("k", a.Sibs[0], b.Sibs[0]), api.ErrOrder)
			wantSame(t, a, old("k", api.OldSib{Clock: make([]api.Entry, 1)}, sib("a1", true, "v")), false)
			wantEncoded(t, a, "\x01k\x02\x00\x00\x00\x01\x01a\x01\x01\x01v", api.OK)
		}
	}
}

func TestSameOfRightOnes(t *testing.T) {
	all := append(few(), each(twos(), 5)...)
	for _, a := range all {
		for _, b := range all {
			wantSame(t, a.o, cloned(b.o), a.s == b.s)
		}
	}
	for _, r := range rights() {
		wantSame(t, r.o, cloned(r.o), true)
		o := cloned(r.o)
		o.Key += "x"
		wantSame(t, r.o, o, false)
		o = cloned(r.o)
		o.Sibs[len(o.Sibs)-1].Value += "x"
		wantSame(t, r.o, o, false)
		wantSame(t, r.o, old(r.o.Key, backwards(r.o.Sibs)...), len(r.o.Sibs) == 1)
	}
}

func TestSameOfWhatIsNotRight(t *testing.T) {
	for _, f := range faults() {
		wantSame(t, f.o, cloned(f.o), true)
		o := cloned(f.o)
		o.Key += "x"
		wantSame(t, f.o, o, false)
		o = cloned(f.o)
		o.Sibs = append(o.Sibs, api.OldSib{})
		wantSame(t, f.o, o, false)
	}
	some := someFaults()
	for _, a := range some {
		for _, b := range some {
			wantSame(t, a.o, cloned(b.o), equal(a.o, b.o))
		}
	}
	wantSame(t, api.Old{}, api.Old{}, true)
	wantSame(t, api.Old{Sibs: make([]api.OldSib, 100000)}, api.Old{Sibs: make([]api.OldSib, 100000)}, true)
	wantSame(t, api.Old{Sibs: make([]api.OldSib, 100000)}, api.Old{Sibs: make([]api.OldSib, 100001)}, false)
}

// TestSameIsOfEachPart is of the same siblings in another order, and of bytes that stand in another part.
func TestSameIsOfEachPart(t *testing.T) {
	wantSame(t, old("k", vals("a1", "b1")...), old("k", vals("b1", "a1")...), false)
	wantSame(t, old("kv", sib("", false, "")), old("k", sib("", false, "v")), false)
	wantSame(t, old("k", sib("", false, "v"), sib("a1", false, "")), old("k", sib("", false, ""), sib("a1", false, "v")), false)
	wantSame(t, old("k", sib("a1", false, "v"), sib("b1", false, "v")), old("k", sib("a1 b1", false, "v"), sib("", false, "v")), false)
	wantSame(t, old("k", sib("", true, "v"), sib("a1", false, "v")), old("k", sib("", false, "v"), sib("a1", true, "v")), false)
}

// P17.3: Alike

func TestAlikeOfRightOnes(t *testing.T) {
	for _, r := range rights() {
		wantAlike(t, r.o, r.o, true)
		wantAlike(t, r.o, cloned(r.o), true)
		wantAlike(t, r.o, old(r.o.Key, backwards(r.o.Sibs)...), true)
	}
	all := append(few(), each(twos(), 5)...)
	for _, a := range all {
		for _, b := range all {
			wantAlike(t, a.o, b.o, plainAlike(a.o, b.o))
		}
	}
}

// TestAlikeOfEachOrder is of all orders of up to five siblings, from some places of the clocks on, held against all of them where there are four.
func TestAlikeOfEachOrder(t *testing.T) {
	all := plainSibs(24)
	for from := 0; from+5 <= len(all); from += 3 {
		for n := 1; n <= 5; n++ {
			o := old("k", all[from:from+n]...)
			less, more, other := old("k", all[from:from+n-1]...), old("k", all[from:from+n+1-n/5]...), old("k", spoilt(o.Sibs, n-1, sib("z1", false, "v"))...)
			for _, l := range orders(o.Sibs) {
				wantAlike(t, o, old("k", l...), true)
				wantAlike(t, less, old("k", l...), false)
				wantAlike(t, more, old("k", l...), n == 5)
				wantAlike(t, other, old("k", l...), false)
				wantSame(t, o, old("k", l...), equal(o, old("k", l...)))
			}
		}
		for _, a := range orders(all[from : from+4]) {
			for _, b := range orders(all[from : from+4]) {
				wantAlike(t, old("k", a...), old("k", b...), true)
			}
		}
	}
}

// TestAlikeOfSixteen is of 16 siblings, turned, from each on, in the reverse, each two of them swapped, and with gaps.
func TestAlikeOfSixteen(t *testing.T) {
	for from := 0; from+16 <= 24; from += 4 {
		all := plainSibs(24)[from : from+16]
		o := old(long(128), all...)
		for i := range 16 {
			turned := slices.Concat(all[i:], all[:i])
			wantAlike(t, o, old(long(128), turned...), true)
			wantAlike(t, o, old(long(128), backwards(turned)...), true)
			wantAlike(t, o, old(long(128), turned[1:]...), false)
			wantAlike(t, o, old(long(127), turned...), false)
			for j := range i {
				swapped := slices.Clone(all)
				swapped[i], swapped[j] = swapped[j], swapped[i]
				wantAlike(t, o, old(long(128), swapped...), true)
				wantSame(t, o, old(long(128), swapped...), false)
				swapped[j].Value += "x"
				wantAlike(t, o, old(long(128), swapped...), false)
			}
		}
		for step := 3; step < 16; step += 2 {
			var l []api.OldSib
			for i := range 16 {
				l = append(l, all[i*step%16])
			}
			wantAlike(t, o, old(long(128), l...), true)
		}
	}
}

// TestAlikeOfWhatDiffersInOnePart holds what is changed in one part against what is changed in another one, in their order and in the reverse: alike are just those that are right, and differ in their order at most.
func TestAlikeOfWhatDiffersInOnePart(t *testing.T) {
	alike, orderOnly := 0, []int{0, 10, 11, 12}
	for i := range changes() {
		for j := range changes() {
			a, b := changed(i), changed(j)
			want := checked(a) == api.OK && (i == j || slices.Contains(orderOnly, i) && slices.Contains(orderOnly, j))
			wantAlike(t, a, b, want)
			wantAlike(t, old(a.Key, backwards(a.Sibs)...), b, want)
			if want {
				alike++
			}
		}
	}
	if alike < 30 {
		t.Fatalf("only %d are alike", alike)
	}
}

// TestAlikeOfPartsThatStandElsewhere is of old objects with the same keys, clocks, flags and values, that stand in other siblings.
func TestAlikeOfPartsThatStandElsewhere(t *testing.T) {
	a := old("k", sib("a1", false, "v"), sib("b1", true, "w"))
	for _, b := range []api.Old{old("k", sib("b1", false, "v"), sib("a1", true, "w")), old("k", sib("a1", false, "w"), sib("b1", true, "v")), old("k", sib("a1", true, "v"), sib("b1", false, "w")), old("k", sib("a1 b1", false, "v"), sib("", true, "w")), old("kv", sib("a1", false, ""), sib("b1", true, "w")), old("k", sib("a1", false, "vw"), sib("b1", true, ""))} {
		wantChecked(t, b, api.OK)
		wantAlike(t, a, b, false)
		wantAlike(t, old("k", backwards(a.Sibs)...), b, false)
	}
}

// TestAlikeOfOneMore is of old objects of which the one has all siblings of the other, and more.
func TestAlikeOfOneMore(t *testing.T) {
	for n := 1; n <= 16; n++ {
		for m := range n {
			wantAlike(t, old("k", plainSibs(n)...), old("k", plainSibs(n)[m:]...), m == 0)
			wantAlike(t, old("k", plainSibs(n)...), old("k", backwards(plainSibs(n-m))...), m == 0)
		}
	}
}

// TestAlikeOfWhatIsNotRight is of old objects of which the one isn't right, the other isn't, or neither is: also where they are the same.
func TestAlikeOfWhatIsNotRight(t *testing.T) {
	some := few()
	for _, f := range append(faults(), someFaults()...) {
		wantAlike(t, f.o, f.o, false)
		wantAlike(t, f.o, cloned(f.o), false)
		wantAlike(t, f.o, some[3].o, false)
		wantAlike(t, f.o, api.Old{}, false)
	}
	for _, f := range someFaults() {
		for _, r := range some {
			wantAlike(t, f.o, r.o, false)
			wantAlike(t, f.o, old(f.o.Key, r.o.Sibs...), false)
		}
		for _, g := range someFaults() {
			wantAlike(t, f.o, g.o, false)
		}
	}
	wantAlike(t, api.Old{}, api.Old{}, false)
	wantAlike(t, api.Old{Sibs: make([]api.OldSib, 100000)}, api.Old{Sibs: make([]api.OldSib, 100000)}, false)
}

// TestAlikeOfTwins is of what isn't right, since two siblings are the same: each of the one's is one of the other's, and there are as many of them.
func TestAlikeOfTwins(t *testing.T) {
	for _, l := range [][2][]api.OldSib{{vals("a1", "a1"), vals("a1", "b1")}, {vals("a1", "b1", "a1"), vals("a1", "b1", "b1")}, {vals("a1", "b1", "a1"), vals("a1", "b1", "c1")}, {vals("a1", "a1"), vals("a1")}, {vals("a1", "a1"), vals("a1", "a1")}} {
		wantAlike(t, old("k", l[0]...), old("k", l[1]...), false)
		wantAlike(t, old("k", backwards(l[0])...), old("k", l[1]...), false)
	}
}

// R4

// inside is an old object whose lists stand in the midst of longer ones, and one that has the siblings' longer lists: what is behind them would be told, were it read or written.
func inside(o api.Old) (api.Old, api.Old) {
	part, whole := cloned(o), cloned(o)
	for i, x := range part.Sibs {
		v := append(slices.Clone(x.Clock), vec("y8 z9")...)
		whole.Sibs[i].Clock, part.Sibs[i].Clock = v, v[:len(x.Clock)]
	}
	part.Sibs = append(part.Sibs, vals("y8", "z9")...)[:len(o.Sibs)]
	return part, whole
}

// wantInside holds an old object that stands inside of longer lists against what it was, and those against what they were.
func wantInside(t *testing.T, part, whole, was, wasWhole api.Old) {
	t.Helper()
	n := len(part.Sibs)
	behind := old("", part.Sibs[n:n+2]...)
	if !equal(part, was) || !equal(whole, wasWhole) || !equal(behind, old("", vals("y8", "z9")...)) {
		t.Fatalf("%s became %s; %s became %s; behind it: %s", brief(was), brief(part), brief(wasWhole), brief(whole), brief(behind))
	}
}

// spoilSib writes over a sibling's clock, and over what lies behind it in its memory.
func spoilSib(x api.OldSib) {
	v := x.Clock[:cap(x.Clock)]
	for i := range v {
		v[i] = api.Entry{Actor: "spoiled"}
	}
}

// spoil writes over an old object's siblings' clocks, over the siblings, and over what lies behind them.
func spoil(o api.Old) {
	for _, x := range o.Sibs {
		spoilSib(x)
	}
	l := o.Sibs[:cap(o.Sibs)]
	for i := range l {
		l[i] = sib("z9", true, "spoiled")
	}
}

// anyOlds are old objects, right and not.
func anyOlds() []api.Old {
	var l []api.Old
	for _, r := range slices.Concat(each(singles(), 9), each(twos(), 3), longs(), mediums(), larges()) {
		l = append(l, r.o)
	}
	for _, f := range append(each(faults(), 5), someFaults()...) {
		l = append(l, f.o)
	}
	for i := range changes() {
		l = append(l, changed(i))
	}
	return append(l, api.Old{}, old("", vals("a1", "a1")...), old(long(129), make([]api.OldSib, 1000)...), old("k", api.OldSib{Clock: entries(1000)}, api.OldSib{Clock: entries(65), Dead: true, Value: tooGreatValue}))
}

func TestWhatIsHandedInStaysAsItWas(t *testing.T) {
	for _, o := range anyOlds() {
		part, whole := inside(o)
		was := cloned(whole)
		other, otherWhole := inside(old(o.Key, backwards(o.Sibs)...))
		otherWas := cloned(otherWhole)
		text, e := legacy.Encode(part)
		kept := string([]byte(text))
		legacy.Check(part)
		legacy.Same(part, other)
		legacy.Same(other, part)
		legacy.Alike(part, other)
		legacy.Alike(other, part)
		wantInside(t, part, whole, o, was)
		wantInside(t, other, otherWhole, old(o.Key, backwards(o.Sibs)...), otherWas)
		wantEncoded(t, part, kept, e)
		spoil(part)
		if text != kept {
			t.Fatalf("%.60q became %.60q", kept, text)
		}
	}
}

// TestWhatLiesBehindIsNotRead is of rows and lists with what isn't right behind their lengths.
func TestWhatLiesBehindIsNotRead(t *testing.T) {
	l := append(vals("a1", "b1"), sib("a1", false, ""), sib("a0", false, ""))
	l[0].Clock = vec("a1 a0")[:1]
	o := old("k", l[:2]...)
	plain := old("k", vals("a1", "b1")...)
	wantChecked(t, o, api.OK)
	wantEncoded(t, o, "\x01k\x02"+"\x01\x01a\x01\x00\x02a1"+"\x01\x01b\x01\x00\x02b1", api.OK)
	wantSame(t, o, plain, true)
	wantAlike(t, o, plain, true)
	wantAlike(t, o, old("k", vals("b1", "a1")...), true)
	wantSame(t, o, old("k", l...), false)
}

func TestWhatIsReadIsNew(t *testing.T) {
	for _, r := range slices.Concat(few(), mediums(), larges()) {
		a, _ := legacy.Decode(r.s)
		b, _ := legacy.Decode(r.s)
		for i := range a.Sibs { // no two lists of one answer share any memory
			spoilSib(a.Sibs[i])
			a.Sibs[i] = r.o.Sibs[i]
			if !equal(a, r.o) {
				t.Fatalf("at %d: %s", i, brief(a))
			}
		}
		if !equal(b, r.o) {
			t.Fatalf("of %.60q: %s", r.s, brief(b))
		}
		spoil(b)
		wantDecoded(t, r.s, r.o, api.OK)
	}
}
