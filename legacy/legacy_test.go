package legacy_test

import (
	"slices"
	"strings"
	"testing"

	"spence/api"
	"spence/legacy"
)

// P17.1: Check

func TestCheck(t *testing.T) {
	for _, r := range rights() {
		wantChecked(t, r.o, api.OK)
	}
}

func TestCheckOfEachError(t *testing.T) {
	for _, f := range append(faults(), someFaults()...) {
		wantChecked(t, f.o, f.e)
	}
}

func TestCheckOfKeysAtTheEdge(t *testing.T) {
	for n, e := range map[int]api.Errno{0: api.ErrEmpty, 1: api.OK, 2: api.OK, 127: api.OK, 128: api.OK, 129: api.ErrLimit, 130: api.ErrLimit, 256: api.ErrLimit, 65536: api.ErrLimit, 1 << 24: api.ErrLimit} {
		wantChecked(t, old(long(n), vals("a1")...), e)
		wantChecked(t, old(strings.Repeat("\x00", n), plainSibs(16)...), e)
	}
}

func TestCheckOfHowManySiblings(t *testing.T) {
	wantChecked(t, old("k"), api.ErrZero)
	wantChecked(t, api.Old{Key: "k", Sibs: []api.OldSib{}}, api.ErrZero)
	for n := 1; n <= 24; n++ {
		e := api.OK
		if n > 16 {
			e = api.ErrLimit
		}
		wantChecked(t, old("k", plainSibs(n)...), e)
	}
	wantChecked(t, old("k", make([]api.OldSib, 1<<20)...), api.ErrLimit)
}

func TestCheckOfValuesAtTheEdge(t *testing.T) {
	for n, e := range map[int]api.Errno{0: api.OK, 1: api.OK, 32767: api.OK, 32768: api.OK, 32769: api.ErrLimit, 32770: api.ErrLimit, 65536: api.ErrLimit, 1 << 24: api.ErrLimit} {
		for _, dead := range []bool{false, true} {
			wantChecked(t, old("k", sib("", dead, long(n))), e)
			wantChecked(t, old("k", append(plainSibs(15), sib("z1", dead, long(n)))...), e)
		}
	}
}

// TestCheckTellsTheFirstOfTwo lists by hand which error is told: the key's, the count's, a sibling's clock's, its value's, the same clock's, the next sibling's.
func TestCheckTellsTheFirstOfTwo(t *testing.T) {
	none, same, many := sib("a0", false, ""), vals("a1", "a1"), make([]api.OldSib, 17)
	many[0] = none
	for _, f := range []fault{
		{api.Old{}, api.ErrEmpty}, {old("", many...), api.ErrEmpty}, {old("", none), api.ErrEmpty}, {old("", same...), api.ErrEmpty}, {old("", sib("", false, tooGreatValue)), api.ErrEmpty},
		{old(long(129)), api.ErrLimit}, {old(long(129), none), api.ErrLimit}, {old(long(129), same...), api.ErrLimit}, {old(long(128)), api.ErrZero}, {old(long(128), none), api.ErrZero},
		{old("k", many...), api.ErrLimit}, {old("k", many[:16]...), api.ErrZero}, {old("k", many[1:]...), api.ErrOrder},
		{old("k", sib("a0", true, tooGreatValue)), api.ErrZero}, {old("k", sib("b1 a1", true, tooGreatValue)), api.ErrOrder}, {old("k", api.OldSib{Clock: one("", 1), Value: tooGreatValue}), api.ErrEmpty}, {old("k", none, none), api.ErrZero},
		{old("k", sib("a1", false, ""), sib("a1", false, tooGreatValue)), api.ErrLimit}, {old("k", sib("a1", false, tooGreatValue), sib("a1", false, tooGreatValue)), api.ErrLimit}, {old("k", sib("", false, ""), sib("b1", false, ""), sib("", true, tooGreatValue)), api.ErrLimit},
		{old("k", append(slices.Clone(same), none)...), api.ErrOrder}, {old("k", none, same[0], same[1]), api.ErrZero}, {old("k", same[0], none, same[1]), api.ErrZero}, {old("k", append(slices.Clone(same), sib("b1", false, tooGreatValue))...), api.ErrOrder}, {old("k", same[0], sib("b1", false, tooGreatValue), same[1]), api.ErrLimit},
		{old("k", same[0], sib("b1", false, ""), same[1], none), api.ErrOrder}, {old("k", sib("b1", false, tooGreatValue), none), api.ErrLimit}, {old("k", none, sib("b1", false, tooGreatValue)), api.ErrZero},
	} {
		wantChecked(t, f.o, f.e)
		wantEncoded(t, f.o, "", f.e)
	}
}

// TestCheckOfEachPairOfClocks holds each against each other one, whatever else the siblings have.
func TestCheckOfEachPairOfClocks(t *testing.T) {
	for i, a := range clocks() {
		for j, b := range clocks() {
			e := api.OK
			if i == j {
				e = api.ErrOrder
			}
			wantChecked(t, old("k", api.OldSib{Clock: a.v}, api.OldSib{Clock: b.v}), e)
			wantChecked(t, old("k", api.OldSib{Clock: a.v, Value: "y"}, api.OldSib{Clock: b.v, Value: "y"}), e)
			wantChecked(t, old("k", api.OldSib{Clock: a.v, Value: "z"}, api.OldSib{Clock: b.v, Value: "y", Dead: true}), e)
			wantChecked(t, old("k", api.OldSib{Clock: a.v, Dead: true}, sib("y9", false, ""), sib("z9", false, ""), api.OldSib{Clock: b.v}), e)
		}
	}
}

// TestCheckOfTwinsAtEachPlace puts a twin of each of some siblings at each place behind it and ahead of it.
func TestCheckOfTwinsAtEachPlace(t *testing.T) {
	for _, n := range []int{1, 2, 3, 8, 15} {
		l := plainSibs(n)
		for _, x := range l {
			for _, y := range twins(x) {
				for at := range n + 1 {
					wantChecked(t, old("k", slices.Insert(slices.Clone(l), at, y)...), api.ErrOrder)
				}
			}
		}
		wantChecked(t, old("k", append(plainSibs(n), sib("z1", false, ""))...), api.OK)
	}
}

// TestCheckOfAnyOrder is of siblings whose clocks rise, fall, and do neither.
func TestCheckOfAnyOrder(t *testing.T) {
	for _, l := range orders(vals("a1", "a2", "b1", "a1 b1", "")) {
		wantChecked(t, old("k", l...), api.OK)
	}
	for n := 2; n <= 16; n++ {
		wantChecked(t, old("k", backwards(plainSibs(n))...), api.OK)
	}
}

// P17.2: Encode

func TestEncode(t *testing.T) {
	for _, r := range append(smalls(), mediums()...) {
		wantEncoded(t, r.o, r.s, api.OK)
	}
}

func TestTheExample(t *testing.T) {
	o, s := old("k", sib("a1", false, "v")), "\x01k\x01\x01\x01a\x01\x00\x01v"
	wantEncoded(t, o, s, api.OK)
	wantDecoded(t, s, o, api.OK)
}

func TestEncodeOfWhatIsNotRight(t *testing.T) {
	for _, f := range append(faults(), someFaults()...) {
		wantEncoded(t, f.o, "", f.e)
	}
}

// TestEncodeOfWhatHasTooManyBytes comes behind Check's errors alone: what isn't right tells those, however many bytes it would have.
func TestEncodeOfWhatHasTooManyBytes(t *testing.T) {
	for _, r := range larges() {
		wantEncoded(t, r.o, "", api.ErrLimit)
		wantEncoded(t, old("", r.o.Sibs...), "", api.ErrEmpty)
		n := len(r.o.Sibs) - 1
		wantEncoded(t, old("k", spoilt(r.o.Sibs, n, r.o.Sibs[0])...), "", api.ErrOrder)
		wantEncoded(t, old("k", spoilt(r.o.Sibs, n, sib("a0", false, greatValue))...), "", api.ErrZero)
		wantEncoded(t, old("k", spoilt(r.o.Sibs, n, api.OldSib{Clock: one("", 1), Value: greatValue})...), "", api.ErrEmpty)
		wantEncoded(t, old("k", spoilt(r.o.Sibs, 0, sib("b1 a1", false, greatValue))...), "", api.ErrOrder)
	}
}

func TestEncodeAroundTheLimit(t *testing.T) {
	for n := 65530; n <= 65540; n++ {
		for _, r := range []right{sized(n), sizedOfMany(n)} {
			if len(r.s) != n {
				t.Fatalf("%d bytes, not %d", len(r.s), n)
			}
			wantChecked(t, r.o, api.OK)
			wantDecoded(t, r.s, r.o, api.OK)
			if n > 65536 {
				wantEncoded(t, r.o, "", api.ErrLimit)
				continue
			}
			wantEncoded(t, r.o, r.s, api.OK)
		}
	}
}

// TestEncodeIsOneByteAwayFromTheLimit lets each part be the one that is a byte too much.
func TestEncodeIsOneByteAwayFromTheLimit(t *testing.T) {
	full := sized(65536).o
	for _, change := range []func(*api.Old){
		func(o *api.Old) { o.Key += "k" },
		func(o *api.Old) { o.Sibs[0].Value += "x" },
		func(o *api.Old) { o.Sibs[1].Clock[0].Actor += "a" },
		func(o *api.Old) { o.Sibs[1].Clock[0].Count = 128 },
		func(o *api.Old) { o.Sibs[0].Clock = vec("b1") },
		func(o *api.Old) { o.Sibs = append(o.Sibs, sib("b1", false, "")) },
	} {
		o := cloned(full)
		change(&o)
		wantChecked(t, o, api.OK)
		wantEncoded(t, o, "", api.ErrLimit)
	}
	for _, change := range []func(*api.Old){
		func(o *api.Old) { o.Key = "K" },
		func(o *api.Old) { o.Sibs[0].Dead = true },
		func(o *api.Old) { o.Sibs[1].Clock[0].Count = 127 },
		func(o *api.Old) { o.Key, o.Sibs[0].Value = "kk", o.Sibs[0].Value[1:] },
	} {
		o := cloned(full)
		change(&o)
		if s, e := legacy.Encode(o); len(s) != 65536 || e != api.OK {
			t.Fatalf("%d bytes, error %d", len(s), e)
		}
	}
}

// P17.2: Decode

func TestDecode(t *testing.T) {
	for _, r := range rights() {
		wantDecoded(t, r.s, r.o, api.OK)
	}
}

func TestDecodeOfEachError(t *testing.T) {
	for _, w := range append(wrongs(), shorts()...) {
		wantDecoded(t, w.s, api.Old{}, w.e)
	}
	for _, w := range wrongs() { // ErrTrail comes behind the errors of reading
		wantDecoded(t, w.s+"\x00", api.Old{}, w.e)
		wantDecoded(t, w.s+long(100), api.Old{}, w.e)
	}
}

// TestDecodeOfKeysAtTheEdge is of lengths from 0 to 300, those that are too great with and without their bytes.
func TestDecodeOfKeysAtTheEdge(t *testing.T) {
	for n := range 301 {
		length := plainNumber(uint64(n))
		s := length + long(n) + "\x01\x00\x00\x00"
		switch {
		case n == 0:
			wantDecoded(t, s, api.Old{}, api.ErrEmpty)
			wantDecoded(t, length, api.Old{}, api.ErrEmpty)
		case n > 128:
			wantDecoded(t, s, api.Old{}, api.ErrLimit)
			wantDecoded(t, length, api.Old{}, api.ErrLimit)
		default:
			wantDecoded(t, s, old(long(n), api.OldSib{}), api.OK)
			wantDecoded(t, length+long(n-1), api.Old{}, api.ErrShort)
		}
	}
}

// TestDecodeOfHowManySiblings is of each count behind which 24 siblings stand, and of each behind which nothing does.
func TestDecodeOfHowManySiblings(t *testing.T) {
	text, ends := "", []int{0}
	for _, x := range sibTexts(0) {
		text += x.s
		ends = append(ends, len(text))
	}
	for n := range 256 {
		count := "\x01k" + plainNumber(uint64(n))
		switch {
		case n == 0:
			wantDecoded(t, count+text, api.Old{}, api.ErrZero)
			wantDecoded(t, count, api.Old{}, api.ErrZero)
		case n > 16:
			wantDecoded(t, count+text, api.Old{}, api.ErrLimit)
			wantDecoded(t, count, api.Old{}, api.ErrLimit)
		default:
			wantDecoded(t, count+text[:ends[n]], old("k", plainSibs(n)...), api.OK)
			wantDecoded(t, count+text[:ends[n+1]], api.Old{}, api.ErrTrail)
			wantDecoded(t, count+text[:ends[n]-1], api.Old{}, api.ErrShort)
			wantDecoded(t, count+text[:ends[n-1]], api.Old{}, api.ErrShort)
			wantDecoded(t, count, api.Old{}, api.ErrShort)
		}
	}
}

// TestDecodeOfHowManyEntries is of each count of entries behind which 100 rising ones stand, and of each behind which nothing does.
func TestDecodeOfHowManyEntries(t *testing.T) {
	for n := range 101 {
		count := "\x01k\x01" + plainNumber(uint64(n))
		if n > 64 {
			wantDecoded(t, count+entriesBytes(n)+"\x00\x01v", api.Old{}, api.ErrLimit)
			wantDecoded(t, count, api.Old{}, api.ErrLimit)
			continue
		}
		wantDecoded(t, count+entriesBytes(n)+"\x00\x01v", old("k", api.OldSib{Clock: entries(n), Value: "v"}), api.OK)
		wantDecoded(t, count+entriesBytes(n), api.Old{}, api.ErrShort)
		wantDecoded(t, count, api.Old{}, api.ErrShort)
	}
}

func TestDecodeOfValuesAtTheEdge(t *testing.T) {
	for _, n := range []int{0, 1, 127, 128, 16383, 16384, 32767, 32768, 32769, 32770, 65535, 65536} {
		for _, ahead := range []string{"\x01k\x01\x00\x00", "\x01k\x02\x01\x01a\x01\x00\x01v\x00\x00"} {
			length := ahead + plainNumber(uint64(n))
			if n > 32768 {
				wantDecoded(t, length+long(n), api.Old{}, api.ErrLimit)
				wantDecoded(t, length, api.Old{}, api.ErrLimit)
				continue
			}
			o := old("k", sib("", false, long(n)))
			if ahead[2] == 2 {
				o = old("k", sib("a1", false, "v"), o.Sibs[0])
			}
			wantDecoded(t, length+long(n), o, api.OK)
			wantDecoded(t, length+long(n)+"x", api.Old{}, api.ErrTrail)
			if n > 0 {
				wantDecoded(t, length+long(n-1), api.Old{}, api.ErrShort)
				wantDecoded(t, length, api.Old{}, api.ErrShort)
			}
		}
	}
}

func TestDecodeOfEachFlag(t *testing.T) {
	for b := range 256 {
		flag := string([]byte{byte(b)})
		for _, w := range []struct {
			s string
			o api.Old
		}{{"\x01k\x01\x00" + flag + "\x01v", old("k", sib("", b == 1, "v"))}, {"\x01k\x02\x00\x01\x00\x01\x01a\x01" + flag + "\x00", old("k", sib("", true, ""), sib("a1", b == 1, ""))}} {
			if b > 1 {
				wantDecoded(t, w.s, api.Old{}, api.ErrFlag)
				continue
			}
			wantDecoded(t, w.s, w.o, api.OK)
		}
	}
}

// TestDecodeOfTwinsAtEachPlace puts a twin of each of some siblings at each place behind it, whole or not: where it isn't whole, or has an error, that is told.
func TestDecodeOfTwinsAtEachPlace(t *testing.T) {
	texts := sibTexts(0)[:15]
	for i, x := range texts {
		clock := clocks()[i].s
		for at := i + 1; at <= 15; at++ {
			s := "\x01k\x10"
			for _, y := range texts[:at] {
				s += y.s
			}
			wantDecoded(t, s+x.s, api.Old{}, api.ErrOrder)
			wantDecoded(t, s+clock+"\x01\x04twin", api.Old{}, api.ErrOrder)
			wantDecoded(t, s+clock+"\x01\x04twin\x41", api.Old{}, api.ErrOrder)
			wantDecoded(t, s+clock+"\x01\x04twi", api.Old{}, api.ErrShort)
			wantDecoded(t, s+clock+"\x01", api.Old{}, api.ErrShort)
			wantDecoded(t, s+clock, api.Old{}, api.ErrShort)
			wantDecoded(t, s+clock+"\x02\x04twin", api.Old{}, api.ErrFlag)
			wantDecoded(t, s+clock+"\x00"+tooGreat, api.Old{}, api.ErrLimit)
			wantDecoded(t, s+clock+"\x00\x84\x00twin", api.Old{}, api.ErrMinimal)
		}
	}
}

func TestDecodeOfEachBeginning(t *testing.T) {
	for _, r := range smalls() {
		for n := range len(r.s) {
			wantDecoded(t, r.s[:n], api.Old{}, api.ErrShort)
		}
	}
	for _, r := range append(mediums(), larges()...) {
		for n := 0; n < len(r.s); n += 1 + n/7 {
			wantDecoded(t, r.s[:n], api.Old{}, api.ErrShort)
		}
		wantDecoded(t, r.s[:len(r.s)-1], api.Old{}, api.ErrShort)
	}
}

func TestDecodeWithOthersBehind(t *testing.T) {
	for _, r := range smalls() {
		for _, s := range []string{"\x00", "\x01", "\x80", "\xff", "\x00\x00\x00", r.s, long(100)} {
			wantDecoded(t, r.s+s, api.Old{}, api.ErrTrail)
		}
	}
	for _, r := range append(few(), mediums()...) {
		for b := range 256 {
			wantDecoded(t, r.s+string([]byte{byte(b)}), api.Old{}, api.ErrTrail)
		}
	}
}

// TestDecodeOfLongTexts is of more than 65,536 bytes: those of a right old object are read, since Encode alone has that limit.
func TestDecodeOfLongTexts(t *testing.T) {
	for _, r := range larges() {
		wantDecoded(t, r.s, r.o, api.OK)
		wantDecoded(t, r.s+"\x00", api.Old{}, api.ErrTrail)
		wantDecoded(t, r.s[:len(r.s)-1], api.Old{}, api.ErrShort)
	}
	for _, r := range few() {
		wantDecoded(t, r.s+long(70000), api.Old{}, api.ErrTrail)
		wantDecoded(t, r.s+strings.Repeat("\x00", 65536), api.Old{}, api.ErrTrail)
	}
	for _, w := range each(wrongs(), 29) {
		wantDecoded(t, w.s+long(70000), api.Old{}, w.e)
	}
	wantDecoded(t, strings.Repeat("\x00", 65537), api.Old{}, api.ErrEmpty)
	wantDecoded(t, strings.Repeat("\x01", 65537), api.Old{}, api.ErrTrail)
	wantDecoded(t, strings.Repeat("\x02", 65537), api.Old{}, api.ErrOrder)
	wantDecoded(t, strings.Repeat("\xff", 65537), api.Old{}, api.ErrOver)
}

// P17.3: texts

func TestEachRightOneHasATextOfItsOwn(t *testing.T) {
	seen := map[string]api.Old{}
	for _, r := range append(smalls(), mediums()...) {
		if o, ok := seen[r.s]; ok && !equal(o, r.o) {
			t.Fatalf("%s and %s have the same bytes", brief(o), brief(r.o))
		}
		seen[r.s] = r.o
		s, _ := legacy.Encode(r.o)
		o, e := legacy.Decode(s)
		if e != api.OK || !equal(o, r.o) || legacy.Check(o) != api.OK {
			t.Fatalf("%s became %s, error %d", brief(r.o), brief(o), e)
		}
		wantEncoded(t, o, s, api.OK)
	}
}

// TestOneByteThatIsAnother turns each byte of small old objects' texts into others: what is read then is another one, whose bytes those are.
func TestOneByteThatIsAnother(t *testing.T) {
	for _, r := range slices.Concat(few(), each(singles(), 61), each(twos(), 17)) {
		for at := range len(r.s) {
			for _, b := range otherBytes(r.s[at], len(r.s)) {
				wantUnlike(t, r, at, b)
			}
		}
	}
}

// otherBytes are the bytes into which one of a text of some length is turned: all of them, in long texts those at edges and those beside it.
func otherBytes(b byte, length int) []byte {
	if length > 300 {
		return []byte{0, 1, 2, 17, 128, 255, b - 1, b + 1}
	}
	var l []byte
	for i := range 256 {
		l = append(l, byte(i))
	}
	return l
}

// TestOneByteOfALongTextThatIsAnother turns bytes at the beginnings and at the ends of texts with great values.
func TestOneByteOfALongTextThatIsAnother(t *testing.T) {
	for _, r := range append(mediums(), larges()...) {
		for _, at := range []int{0, 1, 2, 3, 4, 5, 6, 7, 8, 9, 10, 11, 12, 13, 14, len(r.s) - 1} {
			for _, b := range []byte{0, 1, 2, 127, 128, 255, r.s[at] + 1} {
				wantUnlike(t, r, at, b)
			}
		}
	}
}

// wantUnlike holds a text in which one byte is another one against the plain reading, and against the old object whose bytes it had.
func wantUnlike(t *testing.T, r right, at int, b byte) {
	t.Helper()
	s := r.s[:at] + string([]byte{b}) + r.s[at+1:]
	wantPlain(t, s)
	if o, e := legacy.Decode(s); e == api.OK && s != r.s && equal(o, r.o) {
		t.Fatalf("%.60q and %.60q are both %s", s, r.s, brief(o))
	}
}

// TestTheSameAnswerEachTime asks the same many times.
func TestTheSameAnswerEachTime(t *testing.T) {
	r, many := sized(65536), sizedOfMany(65536)
	for range 100 {
		wantEncoded(t, r.o, r.s, api.OK)
		wantDecoded(t, many.s, many.o, api.OK)
		wantEncoded(t, sized(65537).o, "", api.ErrLimit)
		wantDecoded(t, "\x01k\x01\x00\x02\x00", api.Old{}, api.ErrFlag)
		wantChecked(t, old("k", vals("a2", "b1", "a2")...), api.ErrOrder)
		wantSame(t, changed(0), changed(3), false)
		wantAlike(t, many.o, old(many.o.Key, backwards(many.o.Sibs)...), true)
	}
}
