package upgrade_test

import (
	"slices"
	"strings"
	"testing"

	"spence/api"
	"spence/legacy"
	"spence/object"
	"spence/upgrade"
)

// P18.2: Read

func TestRead(t *testing.T) {
	for _, b := range rights() {
		wantRead(t, 1, b.s, b.q, api.OK)
		wantRead(t, 2, b.t, b.q, api.OK)
	}
}

// TestReadOfVersion2ThatIsNotPlain is of objects with dots and metadata, which stay.
func TestReadOfVersion2ThatIsNotPlain(t *testing.T) {
	dotted := api.Sibling{Clock: api.Clock{Ctx: vec("a1"), Dotted: true, Dot: api.Entry{Actor: "b", Count: 300}}, Value: "v"}
	paired := api.Sibling{Meta: []api.Pair{{Name: "n", Value: "1"}, {Name: "o"}}, Dead: true}
	wantRead(t, 2, "\x01k\x01"+"\x01\x01a\x01\x01\x01b\xac\x02\x00\x00\x01v", obj("k", dotted), api.OK)
	wantRead(t, 2, "\x01k\x02"+"\x00\x00\x02\x01n\x011\x01o\x00\x01\x00"+"\x01\x01a\x01\x01\x01b\xac\x02\x00\x00\x01v", obj("k", paired, dotted), api.OK)
	for _, q := range without() {
		for _, put := range beyond() {
			o := cloned(q)
			put(&o.Sibs[len(o.Sibs)/2])
			s, e := object.Encode(o)
			if e != api.OK {
				t.Fatalf("%s: %d", brief(o), e)
			}
			wantRead(t, 2, s, o, api.OK)
			wantPlain(t, o, false)
		}
	}
}

// TestReadOfAnotherOrder is of siblings that stand in the order of their clocks' bytes in version 2 alone.
func TestReadOfAnotherOrder(t *testing.T) {
	for _, l := range orders(sibTexts(2)[9:13]) {
		b := joined(keys()[3], l...)
		wantRead(t, 1, b.s, b.q, api.OK)
		s := "\x03key\x04"
		for _, x := range l {
			s += x.t
		}
		if s == b.t {
			wantRead(t, 2, s, b.q, api.OK)
			continue
		}
		wantRead(t, 2, s, api.Object{}, api.ErrOrder)
	}
}

// TestReadAsTheOtherVersion lists by hand what comes of it.
func TestReadAsTheOtherVersion(t *testing.T) {
	for _, w := range []struct {
		of byte
		s  string
		q  api.Object
		e  api.Errno // of the other version
	}{
		{1, "\x01k\x01\x01\x01a\x01\x00\x01v", obj("k", nsib("a1", false, "v")), api.ErrLimit},                                                // v is a name's length
		{1, "\x01k\x01\x01\x01a\x01\x01\x01v", obj("k", nsib("a1", true, "v")), api.ErrShort},                                                 // v is a dot's actor
		{1, "\x01k\x01\x00\x00\x00", obj("k", nsib("", false, "")), api.ErrShort},                                                             // there is no flag
		{1, "\x01k\x01\x00\x01\x00", obj("k", nsib("", true, "")), api.ErrEmpty},                                                              // a dot's actor is
		{1, "\x01k\x01\x00\x00\x02\x00\x00", obj("k", nsib("", false, "\x00\x00")), api.ErrEmpty},                                             // a name is
		{1, "\x01k\x01\x00\x00\x09" + long(9), obj("k", nsib("", false, long(9))), api.ErrLimit},                                              // so many pairs
		{1, "\x01k\x01\x00\x01\x02zz", obj("k", nsib("", true, "zz")), api.ErrShort},                                                          // zz is a dot's actor
		{1, "\x01k\x02\x00\x00\x00\x01\x01a\x01\x00\x00", obj("k", nsib("", false, ""), nsib("a1", false, "")), api.ErrEmpty},                 // a is the first one's value, and an actor is empty
		{2, "\x01k\x01\x01\x01a\x01\x00\x00\x00\x01v", obj("k", nsib("a1", false, "v")), api.ErrTrail},                                        // an empty value ends it
		{2, "\x01k\x01\x00\x00\x00\x00\x00", obj("k", nsib("", false, "")), api.ErrTrail},                                                     // so does it here
		{2, "\x01k\x01\x00\x00\x00\x01\x00", obj("k", nsib("", true, "")), api.ErrTrail},                                                      // and here
		{2, "\x01k\x02\x00\x00\x00\x00\x00\x01\x01a\x01\x00\x00\x00\x00", obj("k", nsib("", false, ""), nsib("a1", false, "")), api.ErrOrder}, // two have no entries
		{2, "\x01k\x02\x00\x00\x00\x01\x00\x01\x01a\x01\x00\x00\x01\x00", obj("k", nsib("", true, ""), nsib("a1", true, "")), api.ErrEmpty},   // an actor is
	} {
		wantRead(t, w.of, w.s, w.q, api.OK)
		wantRead(t, 3-w.of, w.s, api.Object{}, w.e)
	}
	for _, b := range rights() {
		q, e := object.Decode(b.s)
		wantRead(t, 2, b.s, q, e)
		o, e := legacy.Decode(b.t)
		wantRead(t, 1, b.t, plainUp(o), e)
	}
}

// TestReadOfATextOfBothVersions is of bytes that are an object's and an old one's, and tell other things as each.
func TestReadOfATextOfBothVersions(t *testing.T) {
	behind := "\x01\x00\x00\x00\x00" + "\x01\x01\xff\x01\x00\x00\x00\x01v"
	s := "\x01k\x03" + "\x00\x01\x01a" + "\x01\x01\x02\x05\x00\x03abc" + "\x01\x01w\x01\x01\x0e" + behind
	first := obj("k", nsib("", true, "a"), api.Sibling{Clock: api.Clock{Ctx: one("\x02", 5)}, Value: "abc"}, nsib("w1", true, behind))
	second := obj("k",
		api.Sibling{Clock: api.Clock{Dotted: true, Dot: api.Entry{Actor: "a", Count: 1}}, Meta: []api.Pair{{Name: "\x05\x00", Value: "abc"}}, Dead: true, Value: "w"},
		api.Sibling{Clock: api.Clock{Ctx: one("\x0e", 1)}},
		api.Sibling{Clock: api.Clock{Ctx: one("\xff", 1)}, Value: "v"})
	wantRead(t, 1, s, first, api.OK)
	wantRead(t, 2, s, second, api.OK)
	wantPlain(t, first, true)
	wantPlain(t, second, false)
	wantRead(t, 3, s, api.Object{}, api.ErrVersion)
}

// TestReadOfEachVersion is of all versions that a byte can tell: there are two.
func TestReadOfEachVersion(t *testing.T) {
	texts := []string{"", "\x00", "\x01k", "\x01k\x00", "\x01k\x01\x00\x02", long(100000), strings.Repeat("\xff", 11)}
	for _, b := range slices.Concat(each(few(), 9), each(mediums(), 5), each(larges(), 5)) {
		texts = append(texts, b.s, b.t, b.s+"\x00", b.t+"\x00", b.s[1:])
	}
	for version := range 256 {
		if version == 1 || version == 2 {
			continue
		}
		for _, s := range texts {
			wantRead(t, byte(version), s, api.Object{}, api.ErrVersion)
		}
	}
	for _, version := range []byte{1, 2} {
		wantRead(t, version, "", api.Object{}, api.ErrShort)
	}
}

func TestReadOfEachBeginning(t *testing.T) {
	for _, b := range slices.Concat(few(), longs()) {
		for n := range len(b.s) {
			wantRead(t, 1, b.s[:n], api.Object{}, api.ErrShort)
		}
		for n := range len(b.t) {
			wantRead(t, 2, b.t[:n], api.Object{}, api.ErrShort)
		}
	}
	for _, b := range append(mediums(), larges()...) {
		for n := 0; n < len(b.s); n += 1 + n/7 {
			wantRead(t, 1, b.s[:n], api.Object{}, api.ErrShort)
			wantRead(t, 2, b.t[:n], api.Object{}, api.ErrShort)
		}
		wantRead(t, 1, b.s[:len(b.s)-1], api.Object{}, api.ErrShort)
		wantRead(t, 2, b.t[:len(b.t)-1], api.Object{}, api.ErrShort)
	}
}

func TestReadWithBytesBehind(t *testing.T) {
	for _, b := range rights() {
		for _, s := range []string{"\x00", "\x01", "\xff", "\x00\x00\x00\x00\x00", "\x01k\x01\x00\x00\x00"} {
			wantRead(t, 1, b.s+s, api.Object{}, api.ErrTrail)
			wantRead(t, 2, b.t+s, api.Object{}, api.ErrTrail)
		}
	}
	for _, b := range few() {
		for _, s := range []string{b.s, b.t, long(70000)} {
			wantRead(t, 1, b.s+s, api.Object{}, api.ErrTrail)
			wantRead(t, 2, b.t+s, api.Object{}, api.ErrTrail)
		}
	}
}

// wrong is a text that can't be read, and why.
type wrong struct {
	s string
	e api.Errno
}

// wrongHeads are texts with each of the errors of reading a key and how many siblings there are, which both versions have alike.
func wrongHeads() []wrong {
	return []wrong{
		{"\x81\x01", api.ErrLimit}, {"\x81\x01" + long(129) + "\x01\x00\x00\x00", api.ErrLimit}, {mostBytes, api.ErrLimit}, {"\x80\x00", api.ErrMinimal}, {"\x81\x00k", api.ErrMinimal}, {nines + "\x02", api.ErrOver}, {"\x00", api.ErrEmpty}, {"\x00\x01\x00\x00\x00", api.ErrEmpty}, {"\x80", api.ErrShort}, {"\x02k", api.ErrShort},
		{"\x01k\x11", api.ErrLimit}, {"\x01k\x80\x01", api.ErrLimit}, {"\x01k" + mostBytes, api.ErrLimit}, {"\x01k\x81\x00", api.ErrMinimal}, {"\x01k\x80\x00", api.ErrMinimal}, {"\x01k" + nines + "\x02", api.ErrOver}, {"\x01k\x00", api.ErrZero}, {"\x01k\x80", api.ErrShort}, {"\x01k", api.ErrShort}, {"\x01k\x10", api.ErrShort},
	}
}

// wrongClocks are texts with each of the errors of reading a vector, which both versions have alike.
func wrongClocks() []wrong {
	return []wrong{
		{"\x41", api.ErrLimit}, {mostBytes, api.ErrLimit}, {"\x80\x00", api.ErrMinimal}, {nines + "\x02", api.ErrOver}, {"\x01\x21" + long(33), api.ErrLimit}, {"\x01\x81\x00a\x01", api.ErrMinimal}, {"\x01\x00", api.ErrEmpty}, {"\x02\x01b\x01\x01a", api.ErrOrder}, {"\x02\x01a\x01\x01a\x00", api.ErrOrder}, {"\x01\x01a\x00", api.ErrZero}, {"\x01\x01a\x81\x00", api.ErrMinimal}, {"\x01\x01a" + nines + "\x02", api.ErrOver},
	}
}

// wrongOlds are texts with each of the errors of reading what version 1 has behind a vector.
func wrongOlds() []wrong {
	return []wrong{
		{"\x00\x02", api.ErrFlag}, {"\x01\x01a\x01\xff", api.ErrFlag}, {"\x00\x00" + tooGreat, api.ErrLimit}, {"\x00\x01" + tooGreat + tooGreatValue, api.ErrLimit}, {"\x00\x01\x81\x00v", api.ErrMinimal}, {"\x00\x00" + nines + "\x02", api.ErrOver},
	}
}

// wrongNews are texts with each of the errors of reading what version 2 has behind a vector.
func wrongNews() []wrong {
	return []wrong{
		{"\x00\x02", api.ErrFlag}, {"\x01\x01a\x01\xff", api.ErrFlag}, {"\x00\x01\x21", api.ErrLimit}, {"\x00\x01\x00", api.ErrEmpty}, {"\x00\x01\x01a\x81\x00", api.ErrMinimal}, {"\x00\x01\x01a\x00", api.ErrZero}, {"\x01\x01a\x02\x01\x01a\x02", api.ErrDot},
		{"\x00\x00\x09", api.ErrLimit}, {"\x00\x00\x80\x00", api.ErrMinimal}, {"\x00\x00\x01\x21", api.ErrLimit}, {"\x00\x00\x01\x00", api.ErrEmpty}, {"\x00\x00\x02\x01b\x00\x01a", api.ErrOrder}, {"\x00\x00\x01\x01t" + tooGreat, api.ErrLimit},
		{"\x00\x00\x00\x02", api.ErrFlag}, {"\x00\x00\x00\x00" + tooGreat, api.ErrLimit}, {"\x00\x00\x00\x01\x81\x00v", api.ErrMinimal}, {"\x00\x00\x00\x00" + nines + "\x02", api.ErrOver},
	}
}

// TestReadOfEachError is of each version's errors, with bytes behind them and without; in siblings that come first, second, and last of 16.
func TestReadOfEachError(t *testing.T) {
	behind := []string{"\x00\x00\x00\x00\x00", "\xff", long(100)}
	for _, version := range []byte{1, 2} {
		for _, w := range wrongHeads() {
			wantRead(t, version, w.s, api.Object{}, w.e)
		}
	}
	wantEach := func(version byte, heads []string, l []wrong) {
		t.Helper()
		for _, head := range heads {
			for _, w := range l {
				wantRead(t, version, head+w.s, api.Object{}, w.e)
				for _, s := range behind {
					wantRead(t, version, head+w.s+s, api.Object{}, w.e)
				}
			}
		}
	}
	fifteen := joined(keys()[0], sibTexts(0)[:15]...)
	wantEach(1, []string{"\x01k\x01", "\x03key\x02\x01\x01b\x01\x00\x01v", "\x01k\x10" + fifteen.s[3:]}, append(wrongClocks(), wrongOlds()...))
	wantEach(2, []string{"\x01k\x01", "\x03key\x02\x00\x00\x00\x00\x01v", "\x01k\x10" + fifteen.t[3:]}, append(wrongClocks(), wrongNews()...))
	for version, ahead := range map[byte]string{1: fifteen.s, 2: fifteen.t} {
		wantRead(t, version, "\x01k\x10"+ahead[3:], api.Object{}, api.ErrShort)
		wantRead(t, version, "\x01k\x0e"+ahead[3:], api.Object{}, api.ErrTrail)
	}
}

// TestReadOfTheSameClockTwice is told by both versions behind the second sibling.
func TestReadOfTheSameClockTwice(t *testing.T) {
	for i, x := range sibTexts(1) {
		y := sibTexts(3)[i]
		wantRead(t, 1, "\x01k\x02"+x.s+y.s, api.Object{}, api.ErrOrder)
		wantRead(t, 2, "\x01k\x02"+x.t+y.t, api.Object{}, api.ErrOrder)
		wantRead(t, 1, "\x01k\x02"+x.s+y.s[:len(y.s)-1], api.Object{}, api.ErrShort)
		wantRead(t, 2, "\x01k\x02"+x.t+y.t[:len(y.t)-1], api.Object{}, api.ErrShort)
		wantRead(t, 1, "\x01k\x02"+x.s+clocks()[i].s+"\x02", api.Object{}, api.ErrFlag)
		wantRead(t, 2, "\x01k\x02"+x.t+clocks()[i].s+"\x00\x00\x02", api.Object{}, api.ErrFlag)
	}
	v, w := "\x00\x00\x01v", "\x01\x01a\x01\x00\x01w" // apart: version 1 alone has other ones between
	wantRead(t, 1, "\x01k\x03"+v+w+v, api.Object{}, api.ErrOrder)
	wantRead(t, 1, "\x01k\x03"+w+v+w, api.Object{}, api.ErrOrder)
}

// TestWhatIsReadIsNew writes over what was read.
func TestWhatIsReadIsNew(t *testing.T) {
	for _, b := range slices.Concat(few(), longs(), mediums(), larges()) {
		for version, s := range map[byte]string{1: b.s, 2: b.t} {
			p, _ := upgrade.Read(version, s)
			q, _ := upgrade.Read(version, s)
			wantApart(t, p, b.q)
			spoil(p)
			if !equal(q, b.q) {
				t.Fatalf("%s became %s", brief(b.q), brief(q))
			}
			wantRead(t, version, s, b.q, api.OK)
		}
	}
}

// TestTheSameAnswerEachTime asks the same many times.
func TestTheSameAnswerEachTime(t *testing.T) {
	b := longs()[len(longs())-1]
	for range 100 {
		wantUp(t, b.o, b.q, api.OK)
		wantDown(t, b.q, rises(b.q), api.OK)
		wantRead(t, 1, b.s, b.q, api.OK)
		wantRead(t, 2, b.t, b.q, api.OK)
		wantRead(t, 0, b.t, api.Object{}, api.ErrVersion)
		wantUp(t, old("k", sib("a2", false, ""), sib("a2", true, "")), api.Object{}, api.ErrOrder)
	}
}
