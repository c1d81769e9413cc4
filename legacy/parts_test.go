package legacy_test

import (
	"fmt"
	"math"
	"slices"
	"strconv"
	"strings"
	"testing"

	"spence/api"
	"spence/legacy"
)

const most = math.MaxUint64 // the greatest count

// The bytes of numbers at the edges, and of what is none.
const (
	mostBytes = "\xff\xff\xff\xff\xff\xff\xff\xff\xff\x01" // of the greatest one
	nines     = "\x80\x80\x80\x80\x80\x80\x80\x80\x80"     // the tenth byte ends it, or is too great
	great     = "\x80\x80\x02"                             // of 32,768
	tooGreat  = "\x81\x80\x02"                             // of 32,769
)

// long is a text of n bytes.
func long(n int) string {
	return strings.Repeat("x", n)
}

// The values at the greatest length, and beyond it.
var (
	greatValue    = long(32768)
	tooGreatValue = long(32769)
)

// vec is a vector of actors of one byte with their counts: "a1 c2".
func vec(s string) []api.Entry {
	var v []api.Entry
	for _, w := range strings.Fields(s) {
		n, err := strconv.ParseUint(w[1:], 10, 64)
		if err != nil {
			panic(err)
		}
		v = append(v, api.Entry{Actor: w[:1], Count: n})
	}
	return v
}

// one is a vector of one entry.
func one(actor string, n uint64) []api.Entry {
	return []api.Entry{{Actor: actor, Count: n}}
}

// sib is a sibling whose clock is written short.
func sib(clock string, dead bool, value string) api.OldSib {
	return api.OldSib{Clock: vec(clock), Dead: dead, Value: value}
}

// vals are siblings whose clocks are written short, and whose values are those too.
func vals(clocks ...string) []api.OldSib {
	var l []api.OldSib
	for _, k := range clocks {
		l = append(l, sib(k, false, k))
	}
	return l
}

// old is an old object of siblings.
func old(key string, l ...api.OldSib) api.Old {
	return api.Old{Key: key, Sibs: l}
}

// entries is a right vector of n actors, all of four digits, so that they rise; each count is 3.
func entries(n int) []api.Entry {
	var v []api.Entry
	for i := range n {
		v = append(v, api.Entry{Actor: strconv.Itoa(1000 + i), Count: 3})
	}
	return v
}

// entriesBytes are the bytes of entries, 6 of each.
func entriesBytes(n int) string {
	s := ""
	for i := range n {
		s += "\x04" + strconv.Itoa(1000+i) + "\x03"
	}
	return s
}

// clockText is a right clock, and its bytes.
type clockText struct {
	v []api.Entry
	s string
}

// clocks are right clocks, 24 of them, in no order: each differs from each other one, some but in one count, in one actor, or by one entry more.
func clocks() []clockText {
	return []clockText{
		{vec("b1"), "\x01\x01b\x01"},
		{nil, "\x00"},
		{vec("a2"), "\x01\x01a\x02"},
		{vec("a1"), "\x01\x01a\x01"},
		{one("a", most), "\x01\x01a" + mostBytes},
		{vec("a128"), "\x01\x01a\x80\x01"},
		{vec("a127"), "\x01\x01a\x7f"},
		{one("\x00", 1), "\x01\x01\x00\x01"},
		{one("\xff\x80", 300), "\x01\x02\xff\x80\xac\x02"},
		{one("aa", 1), "\x01\x02aa\x01"},
		{one(long(32), 1), "\x01\x20" + long(32) + "\x01"},
		{one(long(31), 1), "\x01\x1f" + long(31) + "\x01"},
		{vec("a1 b1"), "\x02\x01a\x01\x01b\x01"},
		{vec("a1 b2"), "\x02\x01a\x01\x01b\x02"},
		{vec("a2 b1"), "\x02\x01a\x02\x01b\x01"},
		{vec("a1 c1"), "\x02\x01a\x01\x01c\x01"},
		{vec("b1 c1"), "\x02\x01b\x01\x01c\x01"},
		{vec("a1 b1 c1"), "\x03\x01a\x01\x01b\x01\x01c\x01"},
		{[]api.Entry{{Actor: "a", Count: 1}, {Actor: "a\x00", Count: 1}}, "\x02\x01a\x01\x02a\x00\x01"},
		{one("a", 1<<63), "\x01\x01a\x80\x80\x80\x80\x80\x80\x80\x80\x80\x01"},
		{entries(64), "\x40" + entriesBytes(64)},
		{entries(63), "\x3f" + entriesBytes(63)},
		{append(entries(63), api.Entry{Actor: "y", Count: 3}), "\x40" + entriesBytes(63) + "\x01y\x03"},
		{append(entries(63), api.Entry{Actor: "1063", Count: 4}), "\x40" + entriesBytes(63) + "\x041063\x04"},
	}
}

// restText is what a right sibling has behind its clock, and its bytes.
type restText struct {
	dead  bool
	value string
	s     string
}

// rests are right ones that are short.
func rests() []restText {
	return []restText{
		{false, "v", "\x00\x01v"},
		{true, "", "\x01\x00"},
		{false, "", "\x00\x00"},
		{true, "\x00", "\x01\x01\x00"},
		{false, "\x01k\x01", "\x00\x03\x01k\x01"},
		{true, "\xff\x80", "\x01\x02\xff\x80"},
		{false, long(128), "\x00\x80\x01" + long(128)},
	}
}

// sibText is a right sibling, and its bytes.
type sibText struct {
	x api.OldSib
	s string
}

// sibTexts are siblings with each of the clocks, 24 of them; what they have behind their clocks begins at some place of rests.
func sibTexts(from int) []sibText {
	var l []sibText
	for i, k := range clocks() {
		r := rests()[(from+i)%len(rests())]
		l = append(l, sibText{api.OldSib{Clock: k.v, Dead: r.dead, Value: r.value}, k.s + r.s})
	}
	return l
}

// right is a right old object, and its bytes.
type right struct {
	o api.Old
	s string
}

// plainKey is a key, and its bytes.
type plainKey struct{ key, s string }

// keys are right ones.
func keys() []plainKey {
	return []plainKey{{"k", "\x01k"}, {"\x00", "\x01\x00"}, {"\xff\x80", "\x02\xff\x80"}, {"key", "\x03key"}, {long(127), "\x7f" + long(127)}, {long(128), "\x80\x01" + long(128)}}
}

// joined is a right old object of right parts, and its bytes.
func joined(k plainKey, l ...sibText) right {
	r := right{api.Old{Key: k.key}, k.s + string([]byte{byte(len(l))})}
	for _, x := range l {
		r.o.Sibs = append(r.o.Sibs, x.x)
		r.s += x.s
	}
	return r
}

// singles are right old objects with one sibling.
func singles() []right {
	var l []right
	for from := range rests() {
		texts := sibTexts(from)
		for _, k := range keys() {
			for _, x := range texts {
				l = append(l, joined(k, x))
			}
		}
	}
	return l
}

// twos are right old objects with two siblings, of each pair of clocks, in both orders.
func twos() []right {
	var l []right
	all := sibTexts(3)
	for i, x := range all {
		for j, y := range all {
			if i != j {
				l = append(l, joined(keys()[(i+j)%len(keys())], x, y))
			}
		}
	}
	return l
}

// longs are right old objects with 3 to 16 siblings.
func longs() []right {
	var l []right
	for n := 3; n <= 16; n++ {
		texts := sibTexts(n)
		for from := 0; from+n <= len(texts); from += 1 + n/4 {
			l = append(l, joined(keys()[(n+from)%len(keys())], texts[from:from+n]...))
		}
		var some []sibText
		for i := 0; len(some) < n; i += 5 {
			some = append(some, texts[i%len(texts)])
		}
		l = append(l, joined(keys()[n%len(keys())], some...))
	}
	return l
}

// mediums are right old objects with values at the edges; they have at most 65,536 bytes.
func mediums() []right {
	var l []right
	for _, v := range []plainKey{{long(300), "\xac\x02" + long(300)}, {long(16383), "\xff\x7f" + long(16383)}, {long(16384), "\x80\x80\x01" + long(16384)}, {long(32767), "\xff\xff\x01" + long(32767)}, {greatValue, great + greatValue}} {
		x := sibText{api.OldSib{Value: v.key}, "\x00\x00" + v.s}
		y := sibText{api.OldSib{Clock: vec("a1"), Dead: true, Value: v.key}, "\x01\x01a\x01\x01" + v.s}
		l = append(l, joined(plainKey{"k", "\x01k"}, x), joined(plainKey{long(128), "\x80\x01" + long(128)}, y))
		if len(v.key) < 32767 {
			l = append(l, joined(plainKey{"k", "\x01k"}, y, x))
		}
	}
	return append(l, sized(65535), sized(65536), sizedOfMany(65535), sizedOfMany(65536))
}

// larges are right old objects with more than 65,536 bytes; the greatest one there is among them.
func larges() []right {
	l := []right{sized(65537), sized(65538), sizedOfMany(65537), sizedOfMany(65538)}
	var all, greatest []sibText
	for i, k := range clocks()[:16] {
		all = append(all, sibText{api.OldSib{Clock: k.v, Value: greatValue}, k.s + "\x00" + great + greatValue})
		v, s := greatClock(i)
		greatest = append(greatest, sibText{api.OldSib{Clock: v, Dead: true, Value: greatValue}, s + "\x01" + great + greatValue})
	}
	k := plainKey{long(128), "\x80\x01" + long(128)}
	return append(l, joined(k, all...), joined(k, greatest...), joined(plainKey{"k", "\x01k"}, all[3:6]...))
}

// greatClock is a clock with as many bytes as there may be, another one for each i.
func greatClock(i int) ([]api.Entry, string) {
	var v []api.Entry
	s := "\x40"
	for n := range 64 {
		actor := strconv.Itoa(100+i) + long(26) + strconv.Itoa(100+n)
		v = append(v, api.Entry{Actor: actor, Count: most})
		s += "\x20" + actor + mostBytes
	}
	return v, s
}

// numberOf2 and numberOf3 are the bytes of a number of two, and of three, bytes.
func numberOf2(n int) string {
	return string([]byte{byte(128 + n%128), byte(n / 128)})
}

func numberOf3(n int) string {
	return string([]byte{byte(128 + n%128), byte(128 + n/128%128), byte(n / 16384)})
}

// sized is a right old object of n bytes, about 65,536, with two siblings: all of it has 32,784 but the first one's value.
func sized(n int) right {
	m := n - 32784
	x := sibText{api.OldSib{Value: long(m)}, "\x00\x00" + numberOf3(m) + long(m)}
	y := sibText{api.OldSib{Clock: vec("a1"), Value: greatValue}, "\x01\x01a\x01\x00" + great + greatValue}
	return joined(plainKey{"k", "\x01k"}, x, y)
}

// sizedOfMany is such an old object with 16 siblings: all of it has 60,243 but the last one's value.
func sizedOfMany(n int) right {
	m := n - 60243
	var l []sibText
	for i := range 15 {
		l = append(l, sibText{api.OldSib{Clock: one("a", uint64(20-i)), Value: long(4000)}, "\x01\x01a" + string([]byte{byte(20 - i)}) + "\x00\xa0\x1f" + long(4000)})
	}
	l = append(l, sibText{api.OldSib{Clock: vec("b1"), Dead: true, Value: long(m)}, "\x01\x01b\x01\x01" + numberOf2(m) + long(m)})
	return joined(plainKey{long(128), "\x80\x01" + long(128)}, l...)
}

// smalls are right old objects with few bytes.
func smalls() []right {
	return slices.Concat(singles(), twos(), longs())
}

// rights are right old objects, at all edges.
func rights() []right {
	return slices.Concat(smalls(), mediums(), larges())
}

// each is every n-th element of a list.
func each[T any](l []T, n int) []T {
	var some []T
	for i := 0; i < len(l); i += n {
		some = append(some, l[i])
	}
	return some
}

// few are some of the small ones: of one, of two and of more siblings.
func few() []right {
	return slices.Concat(each(singles(), 37), each(twos(), 29), each(longs(), 9))
}

// fault is an old object that isn't right, and why.
type fault struct {
	o api.Old
	e api.Errno
}

// sibFault is a sibling that isn't right by itself, and why.
type sibFault struct {
	x api.OldSib
	e api.Errno
}

// badClocks are clocks with each of layer 10's errors.
func badClocks() []sibFault {
	var l []sibFault
	add := func(e api.Errno, v ...api.Entry) {
		l = append(l, sibFault{api.OldSib{Clock: v, Value: "v"}, e})
	}
	add(api.ErrLimit, entries(65)...)
	add(api.ErrLimit, make([]api.Entry, 65)...)
	add(api.ErrLimit, make([]api.Entry, 1000)...)
	add(api.ErrLimit, one(long(33), 1)...)
	add(api.ErrLimit, one(long(33), 0)...)
	add(api.ErrLimit, append(entries(63), one(long(33), 1)...)...)
	add(api.ErrEmpty, one("", 1)...)
	add(api.ErrEmpty, make([]api.Entry, 64)...)
	add(api.ErrEmpty, append(vec("a1"), one("", 0)...)...)
	add(api.ErrOrder, vec("a1 a1")...)
	add(api.ErrOrder, vec("a1 a2")...)
	add(api.ErrOrder, vec("b1 a1")...)
	add(api.ErrOrder, vec("a1 b1 b0")...)
	add(api.ErrOrder, append(entries(63), one("1000", 3)...)...)
	add(api.ErrOrder, append(one("aa", 1), one("a", 1)...)...)
	add(api.ErrZero, vec("a0")...)
	add(api.ErrZero, vec("a1 b0")...)
	add(api.ErrZero, vec("a0 a0")...)
	return append(l, sibFault{api.OldSib{Clock: append(entries(63), one("y", 0)...)}, api.ErrZero})
}

// badSibs are siblings with each of the errors that one has by itself: those of its clock, and a value that is too long.
func badSibs() []sibFault {
	l := badClocks()
	for _, b := range each(l, 3) { // the clock's error is told ahead of the value's
		l = append(l, sibFault{api.OldSib{Clock: b.x.Clock, Dead: true, Value: tooGreatValue}, b.e})
	}
	return append(l, sibFault{api.OldSib{Value: tooGreatValue}, api.ErrLimit}, sibFault{sib("a1", true, long(1<<20)), api.ErrLimit}, sibFault{sib("b1", false, tooGreatValue), api.ErrLimit}, sibFault{api.OldSib{Clock: entries(64), Value: tooGreatValue}, api.ErrLimit})
}

// keyFault is a key that isn't right, and why.
type keyFault struct {
	key string
	e   api.Errno
}

// badKeys are keys with each of the errors.
func badKeys() []keyFault {
	return []keyFault{{"", api.ErrEmpty}, {long(129), api.ErrLimit}, {long(130), api.ErrLimit}, {long(65536), api.ErrLimit}, {strings.Repeat("\x00", 129), api.ErrLimit}}
}

// plainSibs are the first n of some siblings that are right together.
func plainSibs(n int) []api.OldSib {
	var l []api.OldSib
	for _, x := range sibTexts(0)[:n] {
		l = append(l, x.x)
	}
	return l
}

// spoilt is a list in which the element at a place is another one.
func spoilt[T any](l []T, at int, x T) []T {
	l = slices.Clone(l)
	l[at] = x
	return l
}

// badRow is a row of siblings of which none can be an old object's, whatever its key, and why.
type badRow struct {
	l []api.OldSib
	e api.Errno
}

// badRows are rows with each of the errors.
func badRows() []badRow {
	l := []badRow{{nil, api.ErrZero}, {[]api.OldSib{}, api.ErrZero}, {plainSibs(17), api.ErrLimit}, {plainSibs(24), api.ErrLimit}, {make([]api.OldSib, 17), api.ErrLimit}, {make([]api.OldSib, 1000), api.ErrLimit}, {spoilt(plainSibs(17), 0, sib("a0", false, "")), api.ErrLimit}}
	return slices.Concat(l, rowsWithBadSibs(), rowsWithTwins())
}

// rowsWithBadSibs have a sibling that isn't right by itself, with what is wrong behind it too.
func rowsWithBadSibs() []badRow {
	var l []badRow
	bad, all := badSibs(), plainSibs(16)
	same := []api.OldSib{sib("z1", false, "v"), sib("z1", false, "v")}
	for _, b := range bad {
		l = append(l, badRow{[]api.OldSib{b.x}, b.e}, badRow{[]api.OldSib{b.x, b.x}, b.e})
		for _, n := range []int{2, 3, 16} {
			for _, at := range []int{0, n / 2, n - 1} {
				l = append(l, badRow{spoilt(all[:n], at, b.x), b.e})
			}
		}
		for _, behind := range bad { // behind right ones, ahead of another one that isn't right
			l = append(l, badRow{append(slices.Clone(all[:2]), b.x, behind.x), b.e})
		}
		l = append(l, badRow{append([]api.OldSib{b.x}, same...), b.e}, badRow{append(slices.Clone(same), b.x), api.ErrOrder}, badRow{[]api.OldSib{same[0], b.x, same[1]}, b.e})
	}
	return l
}

// twins are siblings with the same clock as another one: the same one, and ones with another value, with another flag, and with both.
func twins(x api.OldSib) []api.OldSib {
	same, value, flag, both := clonedSib(x), clonedSib(x), clonedSib(x), clonedSib(x)
	value.Value += "twin"
	flag.Dead = !flag.Dead
	both.Dead, both.Value = !both.Dead, "twin"
	return []api.OldSib{same, value, flag, both}
}

// rowsWithTwins have right siblings, two of them with the same clock: beside each other, and apart.
func rowsWithTwins() []badRow {
	var l []badRow
	all := plainSibs(24)
	for _, x := range all {
		for _, y := range twins(x) {
			l = append(l, badRow{[]api.OldSib{x, y}, api.ErrOrder})
		}
	}
	for _, n := range []int{3, 4, 7, 16} {
		for i := range n {
			for j := range i {
				y := twins(all[j])[(i+j)%4]
				l = append(l, badRow{spoilt(all[:n], i, y), api.ErrOrder})
			}
		}
	}
	return append(l, badRow{make([]api.OldSib, 2), api.ErrOrder}, badRow{make([]api.OldSib, 16), api.ErrOrder}, badRow{vals("a1", "a1", "a0"), api.ErrOrder}, badRow{vals("a1", "b1", "a1", "b1"), api.ErrOrder})
}

// faults are old objects with each of Check's errors: each of a part, with those behind it right and wrong.
func faults() []fault {
	var l []fault
	some, bad := each(rights(), 41), badRows()
	for _, k := range badKeys() {
		for _, r := range some {
			l = append(l, fault{api.Old{Key: k.key, Sibs: r.o.Sibs}, k.e})
		}
		for _, b := range each(bad, 17) {
			l = append(l, fault{api.Old{Key: k.key, Sibs: b.l}, k.e})
		}
	}
	for i, b := range bad {
		l = append(l, fault{api.Old{Key: keys()[i%len(keys())].key, Sibs: b.l}, b.e})
	}
	return l
}

// someFaults are some of the faults, each error of each part among them.
func someFaults() []fault {
	l := each(faults(), 41)
	for _, b := range badSibs() {
		l = append(l, fault{old("k", b.x), b.e})
	}
	return append(l, fault{old("k"), api.ErrZero}, fault{old("k", make([]api.OldSib, 17)...), api.ErrLimit}, fault{old("", plainSibs(1)...), api.ErrEmpty}, fault{old(long(129), plainSibs(1)...), api.ErrLimit}, fault{old("k", vals("a1", "a1")...), api.ErrOrder}, fault{old("k", vals("a1", "b1", "a1")...), api.ErrOrder})
}

// wrong is a text that begins with no old object, and the error.
type wrong struct {
	s string
	e api.Errno
}

// wrongKeys are texts with each of the errors of reading a key, but for bytes that end too early.
func wrongKeys() []wrong {
	return []wrong{
		{"\x81\x01", api.ErrLimit}, {"\x81\x01" + long(129), api.ErrLimit}, {"\xff\x01", api.ErrLimit}, {"\x80\x02", api.ErrLimit}, {"\x80\x80\x80\x80\x10", api.ErrLimit}, {mostBytes, api.ErrLimit}, {nines + "\x01", api.ErrLimit},
		{"\x80\x00", api.ErrMinimal}, {"\x81\x00k", api.ErrMinimal}, {"\x80\x81\x00", api.ErrMinimal}, {"\x81\x81\x00", api.ErrMinimal}, {nines + "\x00", api.ErrMinimal}, {nines + "\x02", api.ErrOver}, {nines + "\x80", api.ErrOver}, {nines + "\xff\x01", api.ErrOver},
		{"\x00", api.ErrEmpty},
	}
}

// wrongCounts are texts with each of the errors of reading how many siblings there are, but for bytes that end too early.
func wrongCounts() []wrong {
	return []wrong{
		{"\x11", api.ErrLimit}, {"\x12", api.ErrLimit}, {"\x7f", api.ErrLimit}, {"\x80\x01", api.ErrLimit}, {"\x90\x01", api.ErrLimit}, {"\x81\x80\x80\x80\x10", api.ErrLimit}, {mostBytes, api.ErrLimit}, {nines + "\x01", api.ErrLimit},
		{"\x80\x00", api.ErrMinimal}, {"\x81\x00", api.ErrMinimal}, {"\x90\x00", api.ErrMinimal}, {"\x81\x80\x00", api.ErrMinimal}, {nines + "\x00", api.ErrMinimal}, {nines + "\x02", api.ErrOver}, {nines + "\xff", api.ErrOver},
		{"\x00", api.ErrZero},
	}
}

// wrongSibs are texts with each of the errors of reading a sibling, but for bytes that end too early.
func wrongSibs() []wrong {
	return []wrong{
		{"\x41", api.ErrLimit}, {"\x41" + entriesBytes(65), api.ErrLimit}, {mostBytes, api.ErrLimit}, {"\x80\x00", api.ErrMinimal}, {"\x81\x00\x01a\x01", api.ErrMinimal}, {nines + "\x02", api.ErrOver},
		{"\x01\x21" + long(33), api.ErrLimit}, {"\x01\x81\x00a\x01", api.ErrMinimal}, {"\x01\x00", api.ErrEmpty}, {"\x01\x00\x00", api.ErrEmpty}, {"\x02\x01b\x01\x01a", api.ErrOrder}, {"\x02\x01a\x01\x01a", api.ErrOrder}, {"\x02\x01a\x01\x01a\x00", api.ErrOrder}, {"\x01\x01a\x00", api.ErrZero}, {"\x01\x01a\x81\x00", api.ErrMinimal}, {"\x01\x01a" + nines + "\x02", api.ErrOver},
		{"\x00\x02", api.ErrFlag}, {"\x00\x80", api.ErrFlag}, {"\x01\x01a\x01\xff", api.ErrFlag}, {"\x02\x01a\x01\x01b\x01\x03", api.ErrFlag}, {"\x00\x02" + tooGreat, api.ErrFlag},
		{"\x00\x00" + tooGreat, api.ErrLimit}, {"\x00\x01" + tooGreat + tooGreatValue, api.ErrLimit}, {"\x00\x01" + mostBytes, api.ErrLimit}, {"\x00\x01\x81\x00v", api.ErrMinimal}, {"\x00\x00\x80\x00", api.ErrMinimal}, {"\x00\x00" + nines + "\x02", api.ErrOver},
	}
}

// wrongTwins are texts of two siblings with the same clock: the error is told behind the second one.
func wrongTwins() []wrong {
	var l []wrong
	for i, x := range sibTexts(0) {
		for from := range 3 {
			l = append(l, wrong{x.s + sibTexts(from)[i].s, api.ErrOrder})
		}
	}
	return l
}

// wrongsWithinTwins are texts of two siblings with the same clock, of which the second one has an error behind its clock: that is told.
func wrongsWithinTwins() []wrong {
	var l []wrong
	for _, k := range clocks() {
		for _, w := range []wrong{{"\x02", api.ErrFlag}, {"\xff", api.ErrFlag}, {"\x00" + tooGreat, api.ErrLimit}, {"\x01\x80\x00", api.ErrMinimal}, {"\x00" + nines + "\x02", api.ErrOver}} {
			l = append(l, wrong{k.s + "\x00\x00" + k.s + w.s, w.e})
		}
	}
	return l
}

// wrongs are texts with each of the errors of reading: of each part, with what is behind it right and wrong.
func wrongs() []wrong {
	var l []wrong
	add := func(ahead string, of []wrong, behind ...string) {
		for _, w := range of {
			for _, s := range behind {
				l = append(l, wrong{ahead + w.s + s, w.e})
			}
		}
	}
	add("", wrongKeys(), "", "\x01", "\x01\x00\x00\x00", "\x00", "\x11", "\x80\x00", "\x01\x41")
	for _, k := range keys() {
		add(k.s, wrongCounts(), "", "\x00\x00\x00", "\x41", "\x80\x00")
		add(k.s+"\x01", wrongSibs(), "", "\x00")
		add(k.s+"\x02", wrongSibs(), "", "\x00\x00\x00")
		add(k.s+"\x02", wrongTwins(), "")
		add(k.s+"\x03", wrongTwins(), "", "\x41", "\x00\x00\x00")
		add(k.s+"\x02", wrongsWithinTwins(), "", "\x00")
	}
	for n := 2; n < 16; n++ {
		ahead := joined(plainKey{"k", "\x01k"}, sibTexts(n)[:n]...).s
		ahead = "\x01k\x10" + ahead[3:] // 16 of them are to come
		add(ahead, wrongSibs(), "", "\x00\x00\x00")
		add(ahead, []wrong{{"\x00\x00\x01v", api.ErrOrder}, {"\x01\x01b\x01\x01\x00", api.ErrOrder}}, "", "\x41")
		add(ahead, []wrong{{"\x00\x02", api.ErrFlag}, {"\x01\x01b\x01\x00" + tooGreat, api.ErrLimit}}, "", "\x00")
	}
	return l
}

// shorts are texts that end too early; those of siblings with the same clock too, of which the second one isn't whole.
func shorts() []wrong {
	var l []wrong
	for _, s := range []string{"", "\x80", nines, "\x01", "\x02k", "\x80\x01" + long(127), "\x01k", "\x01k\x80", "\x01k\x81", "\x01k" + nines, "\x01k\x01", "\x01k\x10",
		"\x01k\x01\x00", "\x01k\x01\x00\x00", "\x01k\x01\x00\x00\x80", "\x01k\x01\x00\x00\x02v", "\x01k\x01\x40", "\x01k\x01\x01\x01", "\x01k\x01\x01\x01a", "\x01k\x01\x01\x01a\x80", "\x01k\x01\x01\x01a\x01", "\x01k\x01\x02\x01a\x01",
		"\x01k\x01\x00\x00" + great + greatValue[1:], "\x01k\x01\x40" + entriesBytes(63), "\x01k\x02\x00\x00\x00", "\x01k\x02\x00\x00\x00\x00", "\x01k\x02\x00\x00\x00\x00\x01", "\x01k\x02\x00\x00\x00\x00\x00\x01", "\x01k\x02\x01\x01b\x01\x00\x00\x01\x01b\x01\x00", "\x01k\x02\x01\x01b\x01\x00\x00\x01\x01b\x01\x00\x02v",
	} {
		l = append(l, wrong{s, api.ErrShort})
	}
	return l
}

// brief is what a message tells of an old object.
func brief(o api.Old) string {
	s := fmt.Sprintf("%+v", o)
	if len(s) > 400 {
		s = s[:300] + " .. " + s[len(s)-80:]
	}
	return strconv.Quote(s)
}

// equalSibs tells whether two siblings have the same parts, without asking the program.
func equalSibs(a, b api.OldSib) bool {
	return slices.Equal(a.Clock, b.Clock) && a.Dead == b.Dead && a.Value == b.Value
}

// equal tells whether two old objects have the same parts, without asking the program.
func equal(a, b api.Old) bool {
	return a.Key == b.Key && slices.EqualFunc(a.Sibs, b.Sibs, equalSibs)
}

// clonedSib is a sibling in new memory, without asking the program.
func clonedSib(x api.OldSib) api.OldSib {
	x.Clock = slices.Clone(x.Clock)
	return x
}

// cloned is an old object in new memory, without asking the program.
func cloned(o api.Old) api.Old {
	o.Sibs = slices.Clone(o.Sibs)
	for i := range o.Sibs {
		o.Sibs[i] = clonedSib(o.Sibs[i])
	}
	return o
}

// wantChecked holds Check against an error.
func wantChecked(t *testing.T, o api.Old, e api.Errno) {
	t.Helper()
	if got := legacy.Check(o); got != e {
		t.Fatalf("%s: %d, not %d", brief(o), got, e)
	}
}

// wantEncoded holds Encode against a text and an error.
func wantEncoded(t *testing.T, o api.Old, want string, e api.Errno) {
	t.Helper()
	if s, got := legacy.Encode(o); s != want || got != e {
		t.Fatalf("of %s: %.60q (%d bytes), error %d; not %.60q (%d bytes), error %d", brief(o), s, len(s), got, want, len(want), e)
	}
}

// wantDecoded holds Decode against an old object and an error.
func wantDecoded(t *testing.T, s string, want api.Old, e api.Errno) {
	t.Helper()
	if o, got := legacy.Decode(s); !equal(o, want) || got != e {
		t.Fatalf("of %.60q (%d bytes): %s, error %d; not %s, error %d", s, len(s), brief(o), got, brief(want), e)
	}
}

// wantSame holds Same against whether two old objects are, asked both ways.
func wantSame(t *testing.T, a, b api.Old, want bool) {
	t.Helper()
	if legacy.Same(a, b) != want || legacy.Same(b, a) != want {
		t.Fatalf("%s and %s: %t, %t, not %t", brief(a), brief(b), legacy.Same(a, b), legacy.Same(b, a), want)
	}
}

// wantAlike holds Alike against whether two old objects are, asked both ways.
func wantAlike(t *testing.T, a, b api.Old, want bool) {
	t.Helper()
	if legacy.Alike(a, b) != want || legacy.Alike(b, a) != want {
		t.Fatalf("%s and %s: %t, %t, not %t", brief(a), brief(b), legacy.Alike(a, b), legacy.Alike(b, a), want)
	}
}
