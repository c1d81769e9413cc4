package upgrade_test

import (
	"slices"
	"strings"
	"testing"

	"spence/api"
	"spence/legacy"
	"spence/object"
	"spence/upgrade"
)

// TestTheClocksRise holds what the tests lean on against itself: the order that is written by hand is that of the bytes.
func TestTheClocksRise(t *testing.T) {
	l := clocks()
	if len(l) != 28 {
		t.Fatal(len(l))
	}
	for i := range l[1:] {
		if l[i].s+"\x00" >= l[i+1].s+"\x00" {
			t.Fatalf("%q isn't below %q", l[i].s, l[i+1].s)
		}
	}
}

// P18.1: Up

func TestUp(t *testing.T) {
	for _, b := range rights() {
		wantUp(t, b.o, b.q, api.OK)
	}
}

// TestTheExample is the chapter's: b 1, a 2 upgraded are a 2, b 1.
func TestTheExample(t *testing.T) {
	o := old("k", sib("b1", false, "v"), sib("a2", true, "w"))
	q := obj("k", nsib("a2", true, "w"), nsib("b1", false, "v"))
	wantUp(t, o, q, api.OK)
	wantPlain(t, q, true)
	wantDown(t, q, old("k", sib("a2", true, "w"), sib("b1", false, "v")), api.OK)
	wantRead(t, 1, "\x01k\x02"+"\x01\x01b\x01\x00\x01v"+"\x01\x01a\x02\x01\x01w", q, api.OK)
	wantRead(t, 2, "\x01k\x02"+"\x01\x01a\x02\x00\x00\x01\x01w"+"\x01\x01b\x01\x00\x00\x00\x01v", q, api.OK)
}

func TestUpOfOne(t *testing.T) {
	wantUp(t, old("k", sib("a1", false, "v")), obj("k", nsib("a1", false, "v")), api.OK)
	wantUp(t, old("k", sib("a1", true, "v")), obj("k", nsib("a1", true, "v")), api.OK)
	wantUp(t, old("k", sib("", false, "")), obj("k", nsib("", false, "")), api.OK)
	wantUp(t, old("\x00", sib("a1 b300", true, "")), obj("\x00", nsib("a1 b300", true, "")), api.OK)
}

// TestUpOfEachOrder is of all orders of up to five siblings.
func TestUpOfEachOrder(t *testing.T) {
	for n := 1; n <= 5; n++ {
		for from := 0; from+n <= 28; from += n {
			row := sibTexts(n)[from : from+n]
			want := joined(keys()[n], row...).q
			for _, l := range orders(row) {
				wantUp(t, joined(keys()[n], l...).o, want, api.OK)
			}
		}
	}
}

// TestUpOfSixteen is of 16 siblings: turned, from each on, in the reverse, each two of them swapped, and by steps.
func TestUpOfSixteen(t *testing.T) {
	for from := 0; from+16 <= 28; from += 4 {
		all := sibTexts(from)[from : from+16]
		want := joined(keys()[5], all...).q
		wantOrder := func(l []sibText) {
			t.Helper()
			wantUp(t, joined(keys()[5], l...).o, want, api.OK)
		}
		for i := range 16 {
			wantOrder(turned(all, i))
			wantOrder(backwards(turned(all, i)))
			for j := range i {
				wantOrder(spoilt(spoilt(all, i, all[j]), j, all[i]))
			}
		}
		for step := 3; step < 16; step += 2 {
			var l []sibText
			for i := range 16 {
				l = append(l, all[i*step%16])
			}
			wantOrder(l)
		}
	}
}

// TestUpTakesEachPart looks at each part of what comes out by itself: what isn't named in version 1 is nothing.
func TestUpTakesEachPart(t *testing.T) {
	for _, b := range rights() {
		q, _ := upgrade.Up(b.o)
		if q.Key != b.o.Key || len(q.Sibs) != len(b.o.Sibs) || object.Check(q) != api.OK {
			t.Fatalf("%s became %s", brief(b.o), brief(q))
		}
		for _, y := range q.Sibs {
			i := slices.IndexFunc(b.o.Sibs, func(x api.OldSib) bool { return slices.Equal(x.Clock, y.Clock.Ctx) })
			if i < 0 || y.Clock.Dotted || y.Clock.Dot != (api.Entry{}) || len(y.Meta) != 0 || y.Dead != b.o.Sibs[i].Dead || y.Value != b.o.Sibs[i].Value {
				t.Fatalf("%s became %s", brief(b.o), brief(q))
			}
		}
	}
}

// TestUpOfEachFlagAndValue keeps flags and values with their own clocks, also where those are put in another order.
func TestUpOfEachFlagAndValue(t *testing.T) {
	for flags := range 8 {
		for _, v := range [][]string{{"x", "y", "z"}, {"z", "y", "x"}, {"", "x", ""}, {"x", "x", "x"}, {greatValue, "", "v"}, {"", greatValue, greatValue[1:]}} {
			a, b, c := flags&1 > 0, flags&2 > 0, flags&4 > 0
			want := obj("k", nsib("a2", b, v[1]), nsib("b1", a, v[0]), nsib("a1 b1", c, v[2]))
			for _, l := range orders([]api.OldSib{sib("b1", a, v[0]), sib("a2", b, v[1]), sib("a1 b1", c, v[2])}) {
				wantUp(t, old("k", l...), want, api.OK)
			}
		}
	}
}

func TestUpOfEachError(t *testing.T) {
	for _, f := range faults() {
		wantUp(t, f.o, api.Object{}, f.e)
		if e := legacy.Check(f.o); e != f.e {
			t.Fatalf("%s: %d, not %d", brief(f.o), e, f.e)
		}
	}
}

// TestUpTellsTheFirstOfTwo lists by hand which error is told. What comes in no order in version 1 is told in the order in which it came, not in which it would be sorted.
func TestUpTellsTheFirstOfTwo(t *testing.T) {
	none, same, many := sib("a0", false, ""), []api.OldSib{sib("a1", false, "v"), sib("a1", true, "w")}, make([]api.OldSib, 17)
	many[0] = none
	for _, f := range []fault{
		{api.Old{}, api.ErrEmpty}, {old("", many...), api.ErrEmpty}, {old("", same...), api.ErrEmpty}, {old(long(129)), api.ErrLimit}, {old(long(129), none), api.ErrLimit}, {old(long(128)), api.ErrZero},
		{old("k", many...), api.ErrLimit}, {old("k", many[:16]...), api.ErrZero}, {old("k", many[1:]...), api.ErrOrder}, {old("k", none, none), api.ErrZero},
		{old("k", append(slices.Clone(same), none)...), api.ErrOrder}, {old("k", none, same[0], same[1]), api.ErrZero}, {old("k", same[0], none, same[1]), api.ErrZero}, {old("k", same[0], same[1], sib("b1", false, tooGreatValue)), api.ErrOrder}, {old("k", same[0], sib("b1", false, tooGreatValue), same[1]), api.ErrLimit},
		{old("k", same[0], sib("a1", false, tooGreatValue)), api.ErrLimit}, {old("k", sib("b1", false, tooGreatValue), none), api.ErrLimit}, {old("k", none, sib("b1", false, tooGreatValue)), api.ErrZero}, {old("k", sib("c1", false, ""), sib("b1", false, ""), sib("c1", false, ""), none), api.ErrOrder},
	} {
		wantUp(t, f.o, api.Object{}, f.e)
	}
}

// TestUpOfWhatHasTooManyBytes is of what fits a frame in one version alone, or in none: that is a limit of writing.
func TestUpOfWhatHasTooManyBytes(t *testing.T) {
	for n := 65530; n <= 65540; n++ {
		b := sized(n)
		if len(b.s) != n || len(b.t) != n+4 {
			t.Fatal(len(b.s), len(b.t), n)
		}
		wantUp(t, b.o, b.q, api.OK)
		wantPlain(t, b.q, true)
		q, _ := upgrade.Up(b.o)
		if _, e := object.Encode(q); (e == api.OK) != (n+4 <= 65536) {
			t.Fatal(n, e)
		}
		d, e := upgrade.Down(b.q)
		if e != api.OK {
			t.Fatal(n, e)
		}
		if s, e := legacy.Encode(d); (e == api.OK) != (n <= 65536) || e == api.OK && len(s) != n {
			t.Fatal(n, e)
		}
	}
}

// P18.1: Plain, Down

// beyond are ways in which a sibling without a dot and metadata becomes another right one, that isn't plain. None of them changes the order, since vectors that differ do so ahead of the dots.
func beyond() []func(x *api.Sibling) {
	dot := func(actor string, n uint64) func(x *api.Sibling) {
		return func(x *api.Sibling) { x.Clock.Dotted, x.Clock.Dot = true, api.Entry{Actor: actor, Count: n} }
	}
	meta := func(l ...api.Pair) func(x *api.Sibling) {
		return func(x *api.Sibling) { x.Meta = l }
	}
	var eight []api.Pair
	for _, name := range strings.Fields("a b c d e f g h") {
		eight = append(eight, api.Pair{Name: name, Value: "v"})
	}
	return []func(x *api.Sibling){
		dot("z", 1), dot("z", most), dot("\x00\x00", 1), dot(strings.Repeat("z", 32), 7),
		meta(api.Pair{Name: "n"}), meta(api.Pair{Name: "n", Value: "v"}), meta(api.Pair{Name: "\x00"}), meta(eight...), meta(api.Pair{Name: long(32), Value: greatValue}),
		func(x *api.Sibling) { dot("z", 1)(x); meta(api.Pair{Name: "n"})(x) },
	}
}

// without are right objects without dots and metadata, with 1 to 16 siblings.
func without() []api.Object {
	var l []api.Object
	for n := 1; n <= 16; n++ {
		l = append(l, joined(keys()[n%6], sibTexts(n)[n/2:n/2+n]...).q, joined(keys()[n%6], sibTexts(n)[28-n:]...).q)
	}
	return l
}

func TestPlain(t *testing.T) {
	for _, b := range rights() {
		wantPlain(t, b.q, true)
		q, _ := upgrade.Up(b.o)
		wantPlain(t, q, true)
	}
	for _, q := range without() {
		wantPlain(t, q, true)
	}
}

// TestPlainOfEmptyLists is of lists that aren't nil, and have nothing.
func TestPlainOfEmptyLists(t *testing.T) {
	q := obj("k", api.Sibling{Clock: api.Clock{Ctx: []api.Entry{}}, Meta: []api.Pair{}, Value: "v"}, api.Sibling{Clock: api.Clock{Ctx: vec("a1")}, Meta: make([]api.Pair, 0, 3)})
	wantPlain(t, q, true)
	wantDown(t, q, old("k", sib("", false, "v"), sib("a1", false, "")), api.OK)
	q.Sibs[0].Meta = make([]api.Pair, 0, 3)[:1]
	wantPlain(t, q, false)
	o := old("k", api.OldSib{Clock: []api.Entry{}, Value: "v"})
	wantUp(t, o, obj("k", nsib("", false, "v")), api.OK)
}

// TestPlainOfADotOrMetadata puts them into one sibling, at each place, and into several.
func TestPlainOfADotOrMetadata(t *testing.T) {
	for _, q := range without() {
		for _, put := range beyond() {
			all := cloned(q)
			for at := range q.Sibs {
				o := cloned(q)
				put(&o.Sibs[at])
				put(&all.Sibs[at])
				if e := object.Check(o); e != api.OK {
					t.Fatalf("%s: %d", brief(o), e)
				}
				wantPlain(t, o, false)
				wantPlain(t, all, false)
			}
		}
	}
}

// TestPlainOfADotBehindItsVector is of a dot that stands right behind what the vector knows, so that a clock without one would know the same.
func TestPlainOfADotBehindItsVector(t *testing.T) {
	for _, k := range []struct {
		v string
		n uint64
	}{{"", 1}, {"a1", 2}, {"a1 b1", 2}, {"a127", 128}} {
		x := nsib(k.v, false, "v")
		wantPlain(t, obj("k", x), true)
		x.Clock.Dotted, x.Clock.Dot = true, api.Entry{Actor: "a", Count: k.n}
		wantPlain(t, obj("k", x), false)
		wantPlain(t, obj("k", x, nsib("b1 c1", false, "v")), false)
		if e := object.Check(obj("k", x, nsib("b1 c1", false, "v"))); k.v != "a1 b1" && e != api.OK {
			t.Fatal(e)
		}
	}
}

// TestPlainOfADotThatIsNot is of clocks that aren't dotted and have a dot, or are and have none: they aren't right.
func TestPlainOfADotThatIsNot(t *testing.T) {
	for _, q := range without() {
		for at := range q.Sibs {
			for _, k := range []api.Clock{{Dot: api.Entry{Actor: "z", Count: 1}}, {Dot: api.Entry{Actor: "z"}}, {Dot: api.Entry{Count: 1}}, {Dotted: true}, {Dotted: true, Dot: api.Entry{Actor: "z"}}, {Dotted: true, Dot: api.Entry{Count: 1}}} {
				o := cloned(q)
				k.Ctx = o.Sibs[at].Clock.Ctx
				o.Sibs[at].Clock = k
				wantPlain(t, o, false)
			}
		}
	}
}

// badObjects are objects that aren't right, without dots and metadata.
func badObjects() []api.Object {
	l := []api.Object{{}, obj("k"), {Key: "k", Sibs: []api.Sibling{}}, obj("k", make([]api.Sibling, 2)...), obj("k", make([]api.Sibling, 16)...), obj("k", make([]api.Sibling, 17)...), obj("k", make([]api.Sibling, 1000)...)}
	add := func(key string, sibs ...api.Sibling) { l = append(l, obj(key, sibs...)) }
	for _, q := range without() {
		add("", q.Sibs...)
		add(long(129), q.Sibs...)
		n := len(q.Sibs)
		for i := range n {
			x, y := q.Sibs[i], q.Sibs[i]
			x.Value, y.Clock = tooGreatValue, api.Clock{Ctx: vec("a0")}
			add("k", spoilt(q.Sibs, i, x)...)
			add("k", spoilt(q.Sibs, i, y)...)
			if i > 0 {
				add("k", spoilt(q.Sibs, i, q.Sibs[i-1])...)
				add("k", spoilt(spoilt(q.Sibs, i, q.Sibs[0]), 0, q.Sibs[i])...)
				add("k", turned(q.Sibs, i)...)
			}
		}
	}
	for _, b := range badSibs() {
		add("k", api.Sibling{Clock: api.Clock{Ctx: b.x.Clock}, Dead: b.x.Dead, Value: b.x.Value})
	}
	all := joined(keys()[0], sibTexts(0)[:17]...).q.Sibs
	add("k", all...)
	return l
}

func TestPlainOfWhatIsNotRight(t *testing.T) {
	for i, o := range badObjects() {
		if object.Check(o) == api.OK {
			t.Fatal(brief(o))
		}
		wantPlain(t, o, false)
		if len(o.Sibs) == 0 {
			continue
		}
		for j, put := range beyond() { // with a dot or metadata too
			q := cloned(o)
			put(&q.Sibs[(i+j)%len(q.Sibs)])
			wantPlain(t, q, false)
		}
	}
}

// TestPlainOfAnotherOrder is of siblings that are right, and don't rise.
func TestPlainOfAnotherOrder(t *testing.T) {
	for n := 2; n <= 5; n++ {
		for i, l := range orders(joined(keys()[0], sibTexts(0)[n:2*n]...).q.Sibs) {
			wantPlain(t, obj("k", l...), i == 0)
		}
	}
	for n := 2; n <= 16; n++ {
		wantPlain(t, obj("k", backwards(joined(keys()[0], sibTexts(0)[:n]...).q.Sibs)...), false)
	}
}

// rises is an old object whose siblings stand in the order of what they are upgraded.
func rises(q api.Object) api.Old {
	o := api.Old{Key: q.Key}
	for _, y := range q.Sibs {
		o.Sibs = append(o.Sibs, api.OldSib{Clock: y.Clock.Ctx, Dead: y.Dead, Value: y.Value})
	}
	return o
}

func TestDown(t *testing.T) {
	for _, b := range rights() {
		wantDown(t, b.q, rises(b.q), api.OK)
	}
	for _, q := range without() {
		wantDown(t, q, rises(q), api.OK)
	}
}

// TestDownKeepsTheOrder is of an object whose siblings would stand otherwise, were they sorted by their actors, by their counts, or by their values.
func TestDownKeepsTheOrder(t *testing.T) {
	q := obj("k", nsib("", false, "z"), nsib("a256", true, "y"), nsib("a129", false, "x"), nsib("b1", true, ""), nsib("a1 b1", false, "w"), nsib("a1 c1", false, "v"))
	wantDown(t, q, old("k", sib("", false, "z"), sib("a256", true, "y"), sib("a129", false, "x"), sib("b1", true, ""), sib("a1 b1", false, "w"), sib("a1 c1", false, "v")), api.OK)
}

// TestDownOfEachThatIsNotPlain tells one error, whatever Check tells of it.
func TestDownOfEachThatIsNotPlain(t *testing.T) {
	wantDown(t, api.Object{}, api.Old{}, api.ErrArg)
	for _, o := range badObjects() {
		wantDown(t, o, api.Old{}, api.ErrArg)
	}
	for _, q := range without() {
		for _, put := range beyond() {
			for _, at := range []int{0, len(q.Sibs) / 2, len(q.Sibs) - 1} {
				o := cloned(q)
				put(&o.Sibs[at])
				wantDown(t, o, api.Old{}, api.ErrArg)
			}
		}
	}
}

// P18.3

func TestDownOfWhatIsUpgradedIsAlike(t *testing.T) {
	for _, b := range rights() {
		q, e := upgrade.Up(b.o)
		d, e2 := upgrade.Down(q)
		if e != api.OK || e2 != api.OK || !legacy.Alike(d, b.o) || !equalOlds(d, rises(b.q)) {
			t.Fatalf("%s became %s, error %d, %d", brief(b.o), brief(d), e, e2)
		}
		wantUp(t, d, b.q, api.OK)
	}
}

func TestUpOfWhatIsDownIsTheSame(t *testing.T) {
	for _, q := range without() {
		d, e := upgrade.Down(q)
		if e != api.OK || legacy.Check(d) != api.OK {
			t.Fatalf("%s became %s, error %d", brief(q), brief(d), e)
		}
		wantUp(t, d, q, api.OK)
		wantUp(t, old(d.Key, backwards(d.Sibs)...), q, api.OK)
	}
}

// changes are changes of one part of an old object with three siblings, or of none; none of them makes it alike to what it was, but the last ones, which change the order alone.
func changes() []func(o *api.Old) {
	return []func(o *api.Old){
		func(o *api.Old) {},
		func(o *api.Old) { o.Key = "K" },
		func(o *api.Old) { o.Key = "kk" },
		func(o *api.Old) { o.Key = "k\x00" },
		func(o *api.Old) { o.Sibs[0].Clock = vec("b2") },
		func(o *api.Old) { o.Sibs[0].Clock = vec("c1") },
		func(o *api.Old) { o.Sibs[0].Clock = nil },
		func(o *api.Old) { o.Sibs[1].Clock = vec("a1") },
		func(o *api.Old) { o.Sibs[1].Clock = one("aa", 2) },
		func(o *api.Old) { o.Sibs[1].Clock = vec("a2 b1") },
		func(o *api.Old) { o.Sibs[2].Clock = vec("a1 b2") },
		func(o *api.Old) { o.Sibs[2].Clock = vec("a1") },
		func(o *api.Old) { o.Sibs[0].Dead = true },
		func(o *api.Old) { o.Sibs[1].Dead = false },
		func(o *api.Old) { o.Sibs[2].Dead = true },
		func(o *api.Old) { o.Sibs[0].Value = "" },
		func(o *api.Old) { o.Sibs[0].Value = "xx" },
		func(o *api.Old) { o.Sibs[1].Value = "x" },
		func(o *api.Old) { o.Sibs[2].Value = "z\x00" },
		func(o *api.Old) { o.Sibs[0].Value, o.Sibs[1].Value = "y", "x" },
		func(o *api.Old) { o.Sibs[0].Dead, o.Sibs[1].Dead = true, false },
		func(o *api.Old) { o.Sibs[0].Clock, o.Sibs[1].Clock = vec("a2"), vec("b1") },
		func(o *api.Old) { o.Sibs = o.Sibs[1:] },
		func(o *api.Old) { o.Sibs = o.Sibs[:2] },
		func(o *api.Old) { o.Sibs = slices.Delete(o.Sibs, 1, 2) },
		func(o *api.Old) { o.Sibs = append(o.Sibs, sib("c1", false, "")) },
		func(o *api.Old) { o.Sibs = append(o.Sibs, sib("", false, "")) },
		func(o *api.Old) { o.Sibs[0], o.Sibs[1] = o.Sibs[1], o.Sibs[0] },
		func(o *api.Old) { slices.Reverse(o.Sibs) },
		func(o *api.Old) { o.Sibs = turned(o.Sibs, 1) },
	}
}

const orderOnly = 27 // from here on changes change the order alone

// changed is an old object with one of the changes.
func changed(i int) api.Old {
	o := old("k", sib("b1", false, "x"), sib("a2", true, "y"), sib("a1 b1", false, "z"))
	changes()[i](&o)
	return o
}

// TestTwoComeToTheSameJustIfTheyAreAlike holds what is changed in one part against what is changed in another one, in each order of the one.
func TestTwoComeToTheSameJustIfTheyAreAlike(t *testing.T) {
	upon := func(o api.Old) api.Object {
		q, e := upgrade.Up(o)
		if e != api.OK {
			t.Fatalf("%s: %d", brief(o), e)
		}
		return q
	}
	same := func(i int) bool { return i == 0 || i >= orderOnly }
	alike := 0
	for i := range changes() {
		for j := range changes() {
			a, b := changed(i), upon(changed(j))
			want := i == j || same(i) && same(j)
			if legacy.Alike(a, changed(j)) != want {
				t.Fatalf("%s and %s", brief(a), brief(changed(j)))
			}
			for _, l := range orders(a.Sibs) {
				q := upon(old(a.Key, l...))
				if object.Same(q, b) != want || equal(q, b) != want {
					t.Fatalf("%s and %s: not %t", brief(q), brief(b), want)
				}
			}
			if want {
				alike++
			}
		}
	}
	if alike != len(changes())+12 {
		t.Fatal(alike)
	}
}

// TestFewOfThemComeToTheSame holds right old objects against each other.
func TestFewOfThemComeToTheSame(t *testing.T) {
	l := slices.Concat(few(), each(twos(), 13), each(longs(), 3), mediums(), each(larges(), 2))
	for _, a := range l {
		p, _ := upgrade.Up(a.o)
		for _, b := range l {
			q, _ := upgrade.Up(b.o)
			if want := legacy.Alike(a.o, b.o); object.Same(p, q) != want || want != equal(a.q, b.q) {
				t.Fatalf("%s and %s: not %t", brief(p), brief(q), want)
			}
		}
	}
}

// R4

// insideOld is an old object whose lists stand in the midst of longer ones, with others behind them.
func insideOld(o api.Old) api.Old {
	part := clonedOld(o)
	for i, x := range part.Sibs {
		part.Sibs[i].Clock = append(slices.Clone(x.Clock), vec("y8 z9")...)[:len(x.Clock)]
	}
	part.Sibs = append(part.Sibs, sib("y8", true, "behind"))[:len(o.Sibs)]
	return part
}

// inside is an object whose lists stand in the midst of longer ones, with others behind them.
func inside(o api.Object) api.Object {
	part := cloned(o)
	for i, x := range part.Sibs {
		part.Sibs[i].Clock.Ctx = append(slices.Clone(x.Clock.Ctx), vec("y8 z9")...)[:len(x.Clock.Ctx)]
		part.Sibs[i].Meta = append(slices.Clone(x.Meta), api.Pair{Name: "behind"})[:len(x.Meta)]
	}
	part.Sibs = append(part.Sibs, nsib("y8", true, "behind"))[:len(o.Sibs)]
	return part
}

// wantInsideOld holds an old object that stands inside of longer lists against what it was, and what is behind it too.
func wantInsideOld(t *testing.T, part, was api.Old) {
	t.Helper()
	n := len(part.Sibs)
	ok := equalOlds(part, was) && equalOlds(old("", part.Sibs[n:n+1]...), old("", sib("y8", true, "behind")))
	for _, x := range part.Sibs {
		ok = ok && slices.Equal(x.Clock[len(x.Clock):len(x.Clock)+2], vec("y8 z9"))
	}
	if !ok {
		t.Fatalf("%s became %s", brief(was), brief(part))
	}
}

// wantInside holds an object that stands inside of longer lists against what it was, and what is behind it too.
func wantInside(t *testing.T, part, was api.Object) {
	t.Helper()
	n := len(part.Sibs)
	ok := equal(part, was) && equal(obj("", part.Sibs[n:n+1]...), obj("", nsib("y8", true, "behind")))
	for _, x := range part.Sibs {
		v, m := x.Clock.Ctx, x.Meta
		ok = ok && slices.Equal(v[len(v):len(v)+2], vec("y8 z9")) && m[:len(m)+1][len(m)].Name == "behind"
	}
	if !ok {
		t.Fatalf("%s became %s", brief(was), brief(part))
	}
}

// spoilOld writes over an old object's siblings' clocks, over the siblings, and over what lies behind them in their memory.
func spoilOld(o api.Old) {
	for _, x := range o.Sibs {
		v := x.Clock[:cap(x.Clock)]
		for i := range v {
			v[i] = api.Entry{Actor: "spoiled"}
		}
	}
	l := o.Sibs[:cap(o.Sibs)]
	for i := range l {
		l[i] = sib("z9", true, "spoiled")
	}
}

// spoil writes over an object's siblings' lists, over the siblings, and over what lies behind them in their memory.
func spoil(o api.Object) {
	for _, x := range o.Sibs {
		v, m := x.Clock.Ctx[:cap(x.Clock.Ctx)], x.Meta[:cap(x.Meta)]
		for i := range v {
			v[i] = api.Entry{Actor: "spoiled"}
		}
		for i := range m {
			m[i] = api.Pair{Name: "spoiled"}
		}
	}
	l := o.Sibs[:cap(o.Sibs)]
	for i := range l {
		l[i] = nsib("z9", true, "spoiled")
	}
}

func TestWhatIsHandedInStaysAsItWas(t *testing.T) {
	var olds []api.Old
	var objects []api.Object
	for _, b := range slices.Concat(few(), longs(), mediums(), larges()) {
		olds, objects = append(olds, b.o), append(objects, b.q)
	}
	for _, f := range each(faults(), 3) {
		olds = append(olds, f.o)
	}
	for _, q := range without() {
		for _, put := range beyond() {
			put(&q.Sibs[len(q.Sibs)-1])
			objects = append(objects, cloned(q))
		}
	}
	for _, o := range olds {
		part := insideOld(o)
		upgrade.Up(part)
		wantInsideOld(t, part, o)
	}
	for _, o := range append(objects, badObjects()...) {
		part := inside(o)
		upgrade.Plain(part)
		upgrade.Down(part)
		wantInside(t, part, o)
	}
}

// TestWhatIsAnsweredIsNew writes over what was answered, and over what was handed in.
func TestWhatIsAnsweredIsNew(t *testing.T) {
	for _, b := range slices.Concat(few(), longs(), mediums(), larges()) {
		o, q := insideOld(b.o), inside(b.q)
		up, _ := upgrade.Up(o)
		spoil(up)
		wantInsideOld(t, o, b.o)
		down, _ := upgrade.Down(q)
		spoilOld(down)
		wantInside(t, q, b.q)
		up, _ = upgrade.Up(o)
		spoilOld(o)
		if !equal(up, b.q) {
			t.Fatalf("%s became %s", brief(b.q), brief(up))
		}
		down, _ = upgrade.Down(q)
		spoil(q)
		if !equalOlds(down, rises(b.q)) {
			t.Fatalf("%s became %s", brief(rises(b.q)), brief(down))
		}
		wantApart(t, up, b.q)
		wantApartOld(t, down, rises(b.q))
	}
}

// wantApart writes over one sibling's lists after the other: those of the others stay as they were.
func wantApart(t *testing.T, o, was api.Object) {
	t.Helper()
	was = cloned(was)
	for i := range o.Sibs {
		spoil(obj("", o.Sibs[i]))
		o.Sibs[i] = was.Sibs[i]
		if !equal(o, was) {
			t.Fatalf("at %d: %s became %s", i, brief(was), brief(o))
		}
	}
}

// wantApartOld does so with an old object.
func wantApartOld(t *testing.T, o, was api.Old) {
	t.Helper()
	was = clonedOld(was)
	for i := range o.Sibs {
		spoilOld(old("", o.Sibs[i]))
		o.Sibs[i] = was.Sibs[i]
		if !equalOlds(o, was) {
			t.Fatalf("at %d: %s became %s", i, brief(was), brief(o))
		}
	}
}

// TestOneListForAllSiblings hands in siblings that share their memory: what is answered has lists of its own for each.
func TestOneListForAllSiblings(t *testing.T) {
	v := vec("a1 b1 c1")
	o := old("k", api.OldSib{Clock: v}, api.OldSib{Clock: v[:2]}, api.OldSib{Clock: v[:1]}, api.OldSib{Clock: v[1:2]}, api.OldSib{Clock: v[:0]})
	want := obj("k", nsib("", false, ""), nsib("a1", false, ""), nsib("b1", false, ""), nsib("a1 b1", false, ""), nsib("a1 b1 c1", false, ""))
	up, e := upgrade.Up(o)
	if e != api.OK || !equal(up, want) {
		t.Fatal(brief(up), e)
	}
	wantApart(t, up, want)
	q := obj("k", api.Sibling{Clock: api.Clock{Ctx: v[:0]}}, api.Sibling{Clock: api.Clock{Ctx: v[:1]}}, api.Sibling{Clock: api.Clock{Ctx: v[:2]}}, api.Sibling{Clock: api.Clock{Ctx: v}})
	down, e := upgrade.Down(q)
	if e != api.OK || !equalOlds(down, rises(q)) {
		t.Fatal(brief(down), e)
	}
	wantApartOld(t, down, old("k", sib("", false, ""), sib("a1", false, ""), sib("a1 b1", false, ""), sib("a1 b1 c1", false, "")))
	if !slices.Equal(v, vec("a1 b1 c1")) {
		t.Fatal(v)
	}
}

// TestWhatLiesBehindIsNotRead is of lists with what isn't right, or isn't plain, behind their lengths.
func TestWhatLiesBehindIsNotRead(t *testing.T) {
	l := []api.OldSib{sib("b1", false, "v"), sib("a2", false, "w"), sib("b1", false, ""), sib("a0", false, "")}
	l[0].Clock = vec("b1 a0")[:1]
	q := obj("k", nsib("a2", false, "w"), nsib("b1", false, "v"))
	wantUp(t, old("k", l[:2]...), q, api.OK)
	wantUp(t, old("k", l...), api.Object{}, api.ErrOrder)
	m := []api.Sibling{nsib("a2", false, "w"), nsib("b1", false, "v"), nsib("a0", false, "")}
	m[0].Meta = []api.Pair{{Name: "n"}}[:0]
	m[2].Clock.Dotted = true
	wantPlain(t, obj("k", m[:2]...), true)
	wantPlain(t, obj("k", m...), false)
	wantDown(t, obj("k", m[:2]...), old("k", sib("a2", false, "w"), sib("b1", false, "v")), api.OK)
}
