package object_test

import (
	"math"
	"slices"
	"strings"
	"testing"

	"spence/api"
	"spence/cursor"
	"spence/object"
	"spence/pen"
)

// P16.1: Check

func TestCheck(t *testing.T) {
	for _, r := range rights() {
		wantChecked(t, r.o, api.OK)
	}
}

func TestCheckOfEachError(t *testing.T) {
	for _, f := range append(faults(), someFaults()...) {
		wantChecked(t, f.o, f.e)
	}
}

func TestCheckOfKeysAtTheEdge(t *testing.T) {
	for n, e := range map[int]api.Errno{0: api.ErrEmpty, 1: api.OK, 2: api.OK, 127: api.OK, 128: api.OK, 129: api.ErrLimit, 130: api.ErrLimit, 256: api.ErrLimit, 65536: api.ErrLimit, 1 << 24: api.ErrLimit} {
		wantChecked(t, obj(long(n), vals("a1")...), e)
		wantChecked(t, obj(strings.Repeat("\x00", n), plainSibs(16)...), e)
	}
}

func TestCheckOfHowManySiblings(t *testing.T) {
	wantChecked(t, obj("k"), api.ErrZero)
	wantChecked(t, api.Object{Key: "k", Sibs: []api.Sibling{}}, api.ErrZero)
	for n := 1; n <= 16; n++ {
		wantChecked(t, obj("k", plainSibs(n)...), api.OK)
	}
	for n := 17; n <= 24; n++ {
		wantChecked(t, obj("k", plainSibs(n)...), api.ErrLimit)
	}
	wantChecked(t, obj("k", make([]api.Sibling, 1<<20)...), api.ErrLimit)
}

// TestCheckTellsTheFirstOfTwo lists by hand which error is told: that of the key's, of the count, of a sibling, of the order.
func TestCheckTellsTheFirstOfTwo(t *testing.T) {
	none, falling, long17 := sib("a0", "", false, ""), vals("a2", "a1"), make([]api.Sibling, 17)
	long17[0] = none
	for _, f := range []fault{
		{api.Object{}, api.ErrEmpty}, {obj("", long17...), api.ErrEmpty}, {obj("", none), api.ErrEmpty}, {obj("", falling...), api.ErrEmpty},
		{obj(long(129)), api.ErrLimit}, {obj(long(129), none), api.ErrLimit}, {obj(long(129), falling...), api.ErrLimit}, {obj(long(128)), api.ErrZero}, {obj(long(128), none), api.ErrZero},
		{obj("k", long17...), api.ErrLimit}, {obj("k", long17[:16]...), api.ErrZero}, {obj("k", long17[1:]...), api.ErrOrder},
		{obj("k", sib("a1 +a1", "t s", true, ""), sib("a1 +a1", "t s", true, "")), api.ErrDot}, {obj("k", sib("b1", "", false, ""), sib("a1", "t s", false, "")), api.ErrOrder}, {obj("k", sib("b1", "", false, ""), sib("a1", "", false, tooGreatValue)), api.ErrLimit},
		{obj("k", append(slices.Clone(falling), none)...), api.ErrOrder}, {obj("k", none, falling[0], falling[1]), api.ErrZero}, {obj("k", falling[0], none, falling[1]), api.ErrZero}, {obj("k", falling[0], sib("a1", "", false, tooGreatValue), none), api.ErrLimit},
		{obj("k", sib("", "", false, ""), sib("", "", false, tooGreatValue)), api.ErrLimit}, {obj("k", sib("", "", false, ""), api.Sibling{Clock: stray(nil, "a", 1)}), api.ErrArg}, {obj("k", sib("", "", false, ""), api.Sibling{Clock: dot(nil, "", 1)}), api.ErrEmpty},
	} {
		wantChecked(t, f.o, f.e)
	}
}

// TestCheckOfEachPairOfClocks holds each against each other one: neither actors, counts nor values tell their order, but the clocks' bytes alone.
func TestCheckOfEachPairOfClocks(t *testing.T) {
	all := clocks()
	for i, a := range all {
		for j, b := range all {
			e := api.ErrOrder
			if i < j {
				e = api.OK
			}
			if strings.Compare(a.s, b.s) != min(1, max(-1, i-j)) {
				t.Fatalf("%q and %q stand in the wrong order", a.s, b.s)
			}
			wantChecked(t, obj("k", api.Sibling{Clock: a.k}, api.Sibling{Clock: b.k}), e)
			wantChecked(t, obj("k", api.Sibling{Clock: a.k, Value: "z"}, api.Sibling{Clock: b.k, Value: "y", Dead: true}), e)
			wantChecked(t, obj("k", api.Sibling{Clock: a.k, Meta: prs("t1")}, api.Sibling{Clock: b.k}), e)
		}
	}
}

// TestCheckOfClocksThatBeginAlike is of clocks that differ at the last byte, or behind the one's flag. A clock's bytes tell their own end, so that those of no right one begin with all of another one's.
func TestCheckOfClocksThatBeginAlike(t *testing.T) {
	for _, l := range [][]string{{"a1", "a1 +a2", "a1 +a3", "a1 +a300", "a1 +b1"}, {"", "+a1", "+a2"}, {"+a1", "+a128", "+a16384", "+a129"}, {"a1", "a2", "a1 b1", "a1 b1 +c1", "a1 b2"}, {"a5 +a6", "b5", "b5 +a1", "b5 +b6", "a5 b5"}} {
		for i := range l {
			for j := range l {
				e := api.OK
				if i >= j {
					e = api.ErrOrder
				}
				wantChecked(t, obj("k", vals(l[i], l[j])...), e)
			}
		}
		wantChecked(t, obj("k", vals(l...)...), api.OK)
	}
	for i, a := range clocks() {
		for j, b := range clocks() {
			if i != j && strings.HasPrefix(a.s, b.s) {
				t.Fatalf("%q begins with %q", a.s, b.s)
			}
		}
	}
}

// P16.1: Take

func TestTakeAtEachPlaceOfAText(t *testing.T) {
	for _, r := range slices.Concat(few(), mediums(), larges()) {
		for _, ahead := range []string{"", "a", "\x00\x00", "\x01k\x01\x00\x00", "\xff\x80"} {
			for _, behind := range []string{"", "\x00", "\x01", "\x01k\x01\x00\x00\x00\x00\x00", "\xff", "\x80\x00"} {
				wantTaken(t, ahead+r.s+behind, len(ahead), r.o, len(ahead)+len(r.s), api.OK)
			}
		}
	}
	for _, r := range smalls() {
		wantTaken(t, r.s, 0, r.o, len(r.s), api.OK)
		wantTaken(t, "a"+r.s+"b", 1, r.o, 1+len(r.s), api.OK)
	}
}

func TestTakeOneBehindTheOther(t *testing.T) {
	var text strings.Builder
	for _, r := range rights() {
		text.WriteString(r.s)
	}
	s := text.String()
	c := cursor.New(s)
	for _, r := range rights() {
		from := c.At()
		if o := object.Take(c); !alike(o, r.o) || c.Since(from) != r.s {
			t.Fatalf("%s of %.60q, not %s", brief(o), c.Since(from), brief(r.o))
		}
	}
	wantCursor(t, s, c, len(s), api.OK)
	if o := object.Take(c); !alike(o, api.Object{}) {
		t.Fatalf("at the end: %s", brief(o))
	}
	wantCursor(t, s, c, len(s), api.ErrShort)
	wantNone(t, s, c)
}

func TestTakeOfEachError(t *testing.T) {
	for _, w := range wrongs() {
		wantTaken(t, w.s, 0, api.Object{}, w.at, w.e)
		wantTaken(t, "\x01k"+w.s+"\x00\xff", 2, api.Object{}, 2+w.at, w.e)
	}
}

// TestTakeOfKeysAtTheEdge is of lengths from 0 to 300, those that are too great with and without their bytes.
func TestTakeOfKeysAtTheEdge(t *testing.T) {
	for n := range 301 {
		behind := "\x01\x00\x00\x00\x00\x00"
		s := plainNumber(uint64(n)) + long(n) + behind
		switch {
		case n == 0:
			wantTaken(t, s, 0, api.Object{}, 1, api.ErrEmpty)
		case n > 128:
			wantTaken(t, s, 0, api.Object{}, 2, api.ErrLimit)
			wantTaken(t, s[:2], 0, api.Object{}, 2, api.ErrLimit)
		default:
			wantTaken(t, s, 0, obj(long(n), api.Sibling{}), len(s), api.OK)
		}
	}
}

// TestTakeOfHowManySiblings is of each count behind which 24 rising siblings stand, and of each behind which nothing does.
func TestTakeOfHowManySiblings(t *testing.T) {
	text, ends := "", []int{0}
	for _, x := range sibTexts(0) {
		text += x.s
		ends = append(ends, len(text))
	}
	for n := range 256 {
		count := plainNumber(uint64(n))
		switch {
		case n == 0:
			wantTaken(t, "\x01k"+count+text, 0, api.Object{}, 3, api.ErrZero)
			wantTaken(t, "\x01k"+count, 0, api.Object{}, 3, api.ErrZero)
		case n > 16:
			wantTaken(t, "\x01k"+count+text, 0, api.Object{}, 2+len(count), api.ErrLimit)
			wantTaken(t, "\x01k"+count, 0, api.Object{}, 2+len(count), api.ErrLimit)
		default:
			wantTaken(t, "\x01k"+count+text, 0, obj("k", plainSibs(n)...), 3+ends[n], api.OK)
			wantTaken(t, "\x01k"+count, 0, api.Object{}, 3, api.ErrShort)
			wantTaken(t, "\x01k"+count+text[:ends[n-1]], 0, api.Object{}, 3+ends[n-1], api.ErrShort)
		}
	}
}

func TestTakeOfWhatEndsTooEarly(t *testing.T) {
	for _, w := range shorts() {
		for _, ahead := range []string{"", "a", "\x01z\x01\x00", "\xff\xff"} {
			wantTaken(t, ahead+w.s, len(ahead), api.Object{}, len(ahead)+w.at, w.e)
		}
	}
}

// TestTakeOfEachBeginning cuts the bytes of right objects: the place is the end of the part ahead of the one that isn't whole, but within a number the end of the text.
func TestTakeOfEachBeginning(t *testing.T) {
	for _, r := range smalls() {
		at := 0
		for _, p := range parts(r.o) {
			for n := range len(p.s) {
				place := at
				if p.number {
					place = at + n
				}
				wantTaken(t, r.s[:at+n], 0, api.Object{}, place, api.ErrShort)
			}
			at += len(p.s)
		}
		if at != len(r.s) {
			t.Fatalf("%s: %d bytes of parts, not %d", brief(r.o), at, len(r.s))
		}
	}
}

// TestTakeBehindAnObjectThatIsWrong reads right objects up to the first wrong one: nothing is read behind it.
func TestTakeBehindAnObjectThatIsWrong(t *testing.T) {
	first, second := twos()[20], longs()[1]
	ahead := first.s + second.s
	for _, w := range wrongs() {
		s := ahead + w.s + "\x01k\x01\x00\x00\x00\x00\x00"
		c := cursor.New(s)
		a, b := object.Take(c), object.Take(c)
		if !alike(a, first.o) || !alike(b, second.o) || c.Err() != api.OK {
			t.Fatalf("%.60q: %s, %s, error %d", s, brief(a), brief(b), c.Err())
		}
		object.Take(c)
		wantCursor(t, s, c, len(ahead)+w.at, w.e)
		wantNone(t, s, c)
	}
}

func TestTakeOfACursorWithAnError(t *testing.T) {
	for _, e := range anyErrors {
		for _, r := range few() {
			for _, at := range []int{0, len(r.s) / 2, len(r.s)} {
				s := r.s + "\x01k\x01\x00\x00\x00\x00\x00"
				c := cursor.New(s)
				c.Bytes(at)
				c.Fail(e)
				wantCursor(t, s, c, at, e)
				wantNone(t, s, c)
			}
		}
	}
}

func TestTakeOfNil(t *testing.T) {
	var c *cursor.Cursor
	wantCursor(t, "nil", c, 0, api.ErrArg)
	wantNone(t, "nil", c)
}

// P16.1: Put

func TestPut(t *testing.T) {
	for _, r := range rights() {
		for _, room := range []int{len(r.s), len(r.s) + 1, math.MaxInt - 1} {
			p := pen.New(room + 1)
			p.Text("z")
			object.Put(p, r.o)
			wantPen(t, p, "z"+r.s, 1+len(r.s), api.OK)
		}
	}
}

func TestPutOneBehindTheOther(t *testing.T) {
	var text strings.Builder
	for _, r := range rights() {
		text.WriteString(r.s)
	}
	s := text.String()
	p := pen.New(len(s))
	for _, r := range rights() {
		object.Put(p, r.o)
	}
	wantPen(t, p, s, len(s), api.OK)
	object.Put(p, rights()[0].o)
	wantPen(t, p, "", len(s), api.ErrLimit)
}

// TestPutOfWhatIsNotRight writes nothing of it, and nothing behind it.
func TestPutOfWhatIsNotRight(t *testing.T) {
	r := twos()[7]
	for _, f := range append(faults(), someFaults()...) {
		p := pen.New(1 << 24)
		object.Put(p, f.o)
		wantPen(t, p, "", 0, f.e)
		p = pen.New(1 << 24)
		object.Put(p, r.o)
		wantPen(t, p, r.s, len(r.s), api.OK)
		object.Put(p, f.o)
		wantPen(t, p, "", len(r.s), f.e)
		object.Put(p, r.o)
		object.Put(p, api.Object{})
		wantPen(t, p, "", len(r.s), f.e)
	}
}

// TestPutOfWhatIsNotRightWhereNothingFits tells Check's error, since none of its bytes is tried.
func TestPutOfWhatIsNotRightWhereNothingFits(t *testing.T) {
	for _, f := range append(faults(), someFaults()...) {
		for _, room := range []int{math.MinInt, -1, 0} {
			p := pen.New(room)
			object.Put(p, f.o)
			wantPen(t, p, "", 0, f.e)
		}
		p := pen.New(1)
		p.Byte('z')
		object.Put(p, f.o)
		wantPen(t, p, "", 1, f.e)
	}
	for _, r := range rights() {
		p := pen.New(0)
		object.Put(p, r.o)
		wantPen(t, p, "", 0, api.ErrLimit)
	}
}

func TestPutOfAPenWithAnError(t *testing.T) {
	rights, wrongs := few(), someFaults()
	for _, e := range anyErrors {
		p := pen.New(1 << 24)
		p.Text("ab")
		p.Fail(e)
		object.Put(p, api.Object{})
		for _, r := range rights {
			object.Put(p, r.o)
			wantPen(t, p, "", 2, e)
		}
		for _, f := range wrongs {
			object.Put(p, f.o)
			wantPen(t, p, "", 2, e)
		}
	}
}

func TestPutOfNil(t *testing.T) {
	var p *pen.Pen
	object.Put(p, api.Object{})
	for _, r := range rights() {
		object.Put(p, r.o)
	}
	for _, f := range someFaults() {
		object.Put(p, f.o)
	}
	wantPen(t, p, "", 0, api.ErrArg)
}

// TestPutAtEachLimit lists by hand how much is written at each limit: of the object 1 and 3 (length, key) and 1 byte (count); of the first sibling 1, 1 and 1, 2, 1 (entries, length, actor, number, flag), 1 (pairs), 1 (flag), 1 and 3 (length, value); of the second one 1, 1 and 1, 1, 1 (entries, length, actor, number, flag), 1 and 2, 1 (length, the dot's actor, number), 1, 1 and 2, 1 and 3 (pairs, length, name, length, value), 1 (flag), 1 (length of no value).
func TestPutAtEachLimit(t *testing.T) {
	one := sib("a300", "", false, "vvv")
	two := api.Sibling{Clock: dot(vec("b1"), "ab", 7), Meta: []api.Pair{{Name: "tu", Value: "123"}}, Dead: true}
	o := obj("key", one, two)
	s := "\x03key" + "\x02" + "\x01\x01a\xac\x02\x00" + "\x00\x00\x03vvv" + "\x01\x01b\x01\x01\x02ab\x07" + "\x01\x02tu\x03123" + "\x01\x00"
	for room, n := range []int{0, 1, 1, 1, 4, 5, 6, 7, 8, 8, 10, 11, 12, 13, 14, 14, 14, 17, 18, 19, 20, 21, 22, 23, 23, 25, 26, 27, 28, 28, 30, 31, 31, 31, 34, 35} {
		p := pen.New(1 + room)
		p.Text("z")
		object.Put(p, o)
		wantPen(t, p, "", 1+n, api.ErrLimit)
		object.Put(p, o)
		wantPen(t, p, "", 1+n, api.ErrLimit)
	}
	p := pen.New(37)
	p.Text("z")
	object.Put(p, o)
	wantPen(t, p, "z"+s, 37, api.OK)
}

// TestPutOfALongKeyAtEachLimit is of a key whose length has two bytes: neither it nor the key is written in part.
func TestPutOfALongKeyAtEachLimit(t *testing.T) {
	for room := range 136 {
		n := 0
		switch {
		case room >= 131:
			n = room // the count, and parts of one byte
		case room >= 130:
			n = 130
		case room >= 2:
			n = 2
		}
		p := pen.New(room)
		object.Put(p, obj(long(128), api.Sibling{}))
		wantPen(t, p, "", n, api.ErrLimit)
	}
}

// TestPutOfEachRightOneAtEachLimit cuts right objects, so that the limit is within each of their parts.
func TestPutOfEachRightOneAtEachLimit(t *testing.T) {
	for _, r := range rights() {
		ends := []int{0} // where parts end
		for _, p := range parts(r.o) {
			ends = append(ends, ends[len(ends)-1]+len(p.s))
		}
		wantCut(t, r, ends, rooms(ends))
	}
}

// wantCut holds Put at some limits against the parts that end up to each.
func wantCut(t *testing.T, r right, ends, rooms []int) {
	t.Helper()
	for _, room := range rooms {
		at, found := slices.BinarySearch(ends, room)
		if !found {
			at--
		}
		p := pen.New(room)
		object.Put(p, r.o)
		wantPen(t, p, "", ends[at], api.ErrLimit)
	}
}

// rooms are limits below the last end: all of them, in long texts those around ends.
func rooms(ends []int) []int {
	last := ends[len(ends)-1]
	var l []int
	for room := range last {
		at, _ := slices.BinarySearch(ends, room) // the first end that isn't below it
		if last < 4000 || ends[at]-2 < room || at > 0 && room < ends[at-1]+2 {
			l = append(l, room)
		}
	}
	return l
}

// P16.2: Encode

func TestEncode(t *testing.T) {
	for _, r := range append(smalls(), mediums()...) {
		wantEncoded(t, r.o, r.s, api.OK)
	}
}

func TestTheExample(t *testing.T) {
	wantEncoded(t, obj("k", api.Sibling{Value: "v"}), "\x01k\x01\x00\x00\x00\x00\x01v", api.OK)
	wantDecoded(t, "\x01k\x01\x00\x00\x00\x00\x01v", obj("k", api.Sibling{Value: "v"}), api.OK)
}

func TestEncodeOfWhatIsNotRight(t *testing.T) {
	for _, f := range append(faults(), someFaults()...) {
		wantEncoded(t, f.o, "", f.e)
	}
}

// TestEncodeOfWhatHasTooManyBytes comes behind Check's errors alone: what isn't right tells those, however many bytes it would have.
func TestEncodeOfWhatHasTooManyBytes(t *testing.T) {
	for _, r := range larges() {
		wantEncoded(t, r.o, "", api.ErrLimit)
		wantEncoded(t, obj("", r.o.Sibs...), "", api.ErrEmpty)
		wantEncoded(t, obj("k", append(slices.Clone(r.o.Sibs[:1]), r.o.Sibs[0])...), "", api.ErrOrder)
		wantEncoded(t, obj("k", append(slices.Clone(r.o.Sibs[:1]), sib("a1 +a1", "", false, ""))...), "", api.ErrDot)
		wantEncoded(t, obj("k", append(slices.Clone(r.o.Sibs[:1]), sib("a1", "t t", false, ""))...), "", api.ErrOrder)
		wantEncoded(t, obj("k", sib("a0", "", false, ""), r.o.Sibs[0]), "", api.ErrZero)
	}
}

func TestEncodeAroundTheLimit(t *testing.T) {
	for n := 65530; n <= 65536; n++ {
		for _, r := range []right{sized(n), sizedOfOne(n)} {
			if len(r.s) != n {
				t.Fatalf("%d bytes, not %d", len(r.s), n)
			}
			wantEncoded(t, r.o, r.s, api.OK)
			wantDecoded(t, r.s, r.o, api.OK)
		}
	}
	for n := 65537; n <= 65540; n++ {
		wantEncoded(t, sized(n).o, "", api.ErrLimit)
		wantEncoded(t, sizedOfOne(n).o, "", api.ErrLimit)
	}
}

// TestEncodeIsOneByteAwayFromTheLimit lets each part be the one that is a byte too much.
func TestEncodeIsOneByteAwayFromTheLimit(t *testing.T) {
	full := sized(65536).o
	for _, change := range []func(*api.Object){
		func(o *api.Object) { o.Key += "k" },
		func(o *api.Object) { o.Sibs[0].Value += "x" },
		func(o *api.Object) { o.Sibs[1].Clock.Dot.Actor += "a" },
		func(o *api.Object) { o.Sibs[1].Clock.Dot.Count = 128 },
		func(o *api.Object) { o.Sibs[0].Meta = prs("t") },
		func(o *api.Object) { o.Sibs = append(o.Sibs, sib("b1", "", false, "")) },
	} {
		o := cloned(full)
		change(&o)
		wantChecked(t, o, api.OK)
		wantEncoded(t, o, "", api.ErrLimit)
	}
	for _, change := range []func(*api.Object){
		func(o *api.Object) { o.Key = "K" },
		func(o *api.Object) { o.Sibs[0].Dead = true },
		func(o *api.Object) { o.Sibs[1].Clock.Dot.Count = 127 },
		func(o *api.Object) { o.Key, o.Sibs[0].Value = "kk", o.Sibs[0].Value[1:] },
	} {
		o := cloned(full)
		change(&o)
		if s, e := object.Encode(o); len(s) != 65536 || e != api.OK {
			t.Fatalf("%d bytes, error %d", len(s), e)
		}
	}
}

// P16.2: Decode

func TestDecode(t *testing.T) {
	for _, r := range rights() {
		wantDecoded(t, r.s, r.o, api.OK)
	}
}

func TestDecodeOfEachError(t *testing.T) {
	for _, w := range append(wrongs(), shorts()...) {
		wantDecoded(t, w.s, api.Object{}, w.e)
	}
	for _, w := range wrongs() { // ErrTrail comes behind the errors of reading
		wantDecoded(t, w.s+"\x00", api.Object{}, w.e)
		wantDecoded(t, w.s+long(100), api.Object{}, w.e)
	}
}

func TestDecodeOfEachBeginning(t *testing.T) {
	for _, r := range smalls() {
		for n := range len(r.s) {
			wantDecoded(t, r.s[:n], api.Object{}, api.ErrShort)
		}
	}
	for _, r := range append(mediums(), larges()...) {
		for n := 0; n < len(r.s); n += 1 + n/7 {
			wantDecoded(t, r.s[:n], api.Object{}, api.ErrShort)
		}
		wantDecoded(t, r.s[:len(r.s)-1], api.Object{}, api.ErrShort)
	}
}

func TestDecodeWithOthersBehind(t *testing.T) {
	for _, r := range smalls() {
		for _, s := range []string{"\x00", "\x01", "\x80", "\xff", "\x00\x00\x00\x00\x00", r.s, long(100)} {
			wantDecoded(t, r.s+s, api.Object{}, api.ErrTrail)
		}
	}
	for _, r := range few() {
		for b := range 256 {
			wantDecoded(t, r.s+string([]byte{byte(b)}), api.Object{}, api.ErrTrail)
		}
	}
}

// TestDecodeOfLongTexts is of more than 65,536 bytes: those of a right object are read, since Encode alone has that limit, and Put writes them again.
func TestDecodeOfLongTexts(t *testing.T) {
	for _, r := range larges() {
		wantDecoded(t, r.s, r.o, api.OK)
		wantDecoded(t, r.s+"\x00", api.Object{}, api.ErrTrail)
		wantDecoded(t, r.s[:len(r.s)-1], api.Object{}, api.ErrShort)
		p := pen.New(len(r.s))
		o, _ := object.Decode(r.s)
		object.Put(p, o)
		wantPen(t, p, r.s, len(r.s), api.OK)
	}
	for _, r := range few() {
		wantDecoded(t, r.s+long(70000), api.Object{}, api.ErrTrail)
		wantDecoded(t, r.s+strings.Repeat("\x00", 65536), api.Object{}, api.ErrTrail)
	}
	for _, w := range each(wrongs(), 29) {
		wantDecoded(t, w.s+long(70000), api.Object{}, w.e)
	}
	wantDecoded(t, strings.Repeat("\x00", 65537), api.Object{}, api.ErrEmpty)
	wantDecoded(t, strings.Repeat("\x01", 65537), api.Object{}, api.ErrDot)
	wantDecoded(t, strings.Repeat("\xff", 65537), api.Object{}, api.ErrOver)
}

// P16.2: texts

func TestEachRightOneHasATextOfItsOwn(t *testing.T) {
	seen := map[string]api.Object{}
	for _, r := range append(smalls(), mediums()...) {
		if o, ok := seen[r.s]; ok && !alike(o, r.o) {
			t.Fatalf("%s and %s have the same bytes", brief(o), brief(r.o))
		}
		seen[r.s] = r.o
		s, _ := object.Encode(r.o)
		o, e := object.Decode(s)
		if e != api.OK || !alike(o, r.o) || object.Check(o) != api.OK {
			t.Fatalf("%s became %s, error %d", brief(r.o), brief(o), e)
		}
		wantEncoded(t, o, s, api.OK)
	}
}

// TestOneByteThatIsAnother turns each byte of small objects' texts into others: what is read then is another object, whose bytes those are.
func TestOneByteThatIsAnother(t *testing.T) {
	for _, r := range slices.Concat(few(), each(singles(), 61), each(twos(), 17)) {
		for at := range len(r.s) {
			for _, b := range otherBytes(r.s[at], len(r.s)) {
				wantUnlike(t, r, at, b)
			}
		}
	}
}

// otherBytes are the bytes into which one of a text of some length is turned: all of them, in long texts those at edges and those beside it.
func otherBytes(b byte, length int) []byte {
	if length > 300 {
		return []byte{0, 1, 2, 17, 128, 255, b - 1, b + 1}
	}
	if length > 60 {
		return []byte{0, 1, 2, 8, 9, 16, 17, 32, 33, 127, 128, 129, 255, b - 1, b + 1, b ^ 128}
	}
	var l []byte
	for i := range 256 {
		l = append(l, byte(i))
	}
	return l
}

// TestOneByteOfALongTextThatIsAnother turns bytes at the beginnings and at the ends of texts with great values.
func TestOneByteOfALongTextThatIsAnother(t *testing.T) {
	for _, r := range append(mediums(), larges()...) {
		for _, at := range []int{0, 1, 2, 3, 4, 5, 6, 7, 8, 9, 10, 11, 12, 13, 14, len(r.s) - 1} {
			for _, b := range []byte{0, 1, 2, 127, 128, 255, r.s[at] + 1} {
				wantUnlike(t, r, at, b)
			}
		}
	}
}

// wantUnlike holds a text in which one byte is another one against the plain reading, and against the object whose bytes it had.
func wantUnlike(t *testing.T, r right, at int, b byte) {
	t.Helper()
	s := r.s[:at] + string([]byte{b}) + r.s[at+1:]
	wantPlain(t, s)
	if o, e := object.Decode(s); e == api.OK && s != r.s && alike(o, r.o) {
		t.Fatalf("%.60q and %.60q are both %s", s, r.s, brief(o))
	}
}

// TestTheSameAnswerEachTime asks the same many times.
func TestTheSameAnswerEachTime(t *testing.T) {
	r := sized(65536)
	back := slices.Clone(r.o.Sibs)
	slices.Reverse(back)
	for range 100 {
		wantEncoded(t, r.o, r.s, api.OK)
		wantDecoded(t, r.s, r.o, api.OK)
		wantEncoded(t, sized(65537).o, "", api.ErrLimit)
		wantDecoded(t, "\x01k\x01\x00\x00\x00\x02\x00", api.Object{}, api.ErrFlag)
		wantChecked(t, obj("k", vals("a2", "a1")...), api.ErrOrder)
		wantSorted(t, "k", back, r.o, api.OK)
		wantSorted(t, "k", vals("a1", "b1", "a1"), api.Object{}, api.ErrOrder)
		wantSame(t, changed(0), changed(3), false)
	}
}
