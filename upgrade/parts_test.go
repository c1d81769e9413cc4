package upgrade_test

import (
	"cmp"
	"fmt"
	"math"
	"slices"
	"strconv"
	"strings"
	"testing"

	"spence/api"
	"spence/upgrade"
)

const most = math.MaxUint64 // the greatest count

// The bytes of numbers at the edges, and of what is none.
const (
	mostBytes = "\xff\xff\xff\xff\xff\xff\xff\xff\xff\x01" // of the greatest one
	nines     = "\x80\x80\x80\x80\x80\x80\x80\x80\x80"     // the tenth byte ends it, or is too great
	great     = "\x80\x80\x02"                             // of 32,768
	tooGreat  = "\x81\x80\x02"                             // of 32,769
)

// long is a text of n bytes.
func long(n int) string {
	return strings.Repeat("x", n)
}

// The values at the greatest length, and beyond it.
var (
	greatValue    = long(32768)
	tooGreatValue = long(32769)
)

// vec is a vector of actors of one byte with their counts: "a1 c2".
func vec(s string) []api.Entry {
	var v []api.Entry
	for _, w := range strings.Fields(s) {
		n, err := strconv.ParseUint(w[1:], 10, 64)
		if err != nil {
			panic(err)
		}
		v = append(v, api.Entry{Actor: w[:1], Count: n})
	}
	return v
}

// one is a vector of one entry.
func one(actor string, n uint64) []api.Entry {
	return []api.Entry{{Actor: actor, Count: n}}
}

// sib is a sibling of version 1 whose clock is written short.
func sib(clock string, dead bool, value string) api.OldSib {
	return api.OldSib{Clock: vec(clock), Dead: dead, Value: value}
}

// old is an old object of siblings.
func old(key string, l ...api.OldSib) api.Old {
	return api.Old{Key: key, Sibs: l}
}

// nsib is a sibling of version 2, without a dot or metadata, whose clock is written short.
func nsib(clock string, dead bool, value string) api.Sibling {
	return api.Sibling{Clock: api.Clock{Ctx: vec(clock)}, Dead: dead, Value: value}
}

// obj is an object of siblings.
func obj(key string, l ...api.Sibling) api.Object {
	return api.Object{Key: key, Sibs: l}
}

// entries is a right vector of n actors, all of four digits, so that they rise; each count is 3.
func entries(n int) []api.Entry {
	var v []api.Entry
	for i := range n {
		v = append(v, api.Entry{Actor: strconv.Itoa(1000 + i), Count: 3})
	}
	return v
}

// entriesBytes are the bytes of entries, 6 of each.
func entriesBytes(n int) string {
	s := ""
	for i := range n {
		s += "\x04" + strconv.Itoa(1000+i) + "\x03"
	}
	return s
}

// clockText is a right vector, and its bytes.
type clockText struct {
	v []api.Entry
	s string
}

// clocks are right vectors, 28 of them, whose bytes rise. Their order is neither that of their counts (256 stands ahead of 129) nor that of their actors (aa stands behind b, y ahead of 1063).
func clocks() []clockText {
	return append([]clockText{
		{nil, "\x00"},
		{one("\x00", 1), "\x01\x01\x00\x01"},
		{vec("a1"), "\x01\x01a\x01"},
		{vec("a2"), "\x01\x01a\x02"},
		{vec("a127"), "\x01\x01a\x7f"},
		{vec("a128"), "\x01\x01a\x80\x01"},
		{vec("a256"), "\x01\x01a\x80\x02"},
		{one("a", 1<<63), "\x01\x01a\x80\x80\x80\x80\x80\x80\x80\x80\x80\x01"},
		{vec("a129"), "\x01\x01a\x81\x01"},
		{vec("a255"), "\x01\x01a\xff\x01"},
		{one("a", most), "\x01\x01a" + mostBytes},
		{vec("b1"), "\x01\x01b\x01"},
		{one("\xff", 1), "\x01\x01\xff\x01"},
		{one("aa", 1), "\x01\x02aa\x01"},
		{one("\xff\x80", 300), "\x01\x02\xff\x80\xac\x02"},
		{one(long(31), 1), "\x01\x1f" + long(31) + "\x01"},
		{one(long(32), 1), "\x01\x20" + long(32) + "\x01"},
		{vec("a1 b1"), "\x02\x01a\x01\x01b\x01"},
		{vec("a1 b2"), "\x02\x01a\x01\x01b\x02"},
		{vec("a1 c1"), "\x02\x01a\x01\x01c\x01"},
		{[]api.Entry{{Actor: "a", Count: 1}, {Actor: "a\x00", Count: 1}}, "\x02\x01a\x01\x02a\x00\x01"},
		{vec("a2 b1"), "\x02\x01a\x02\x01b\x01"},
		{vec("b1 c1"), "\x02\x01b\x01\x01c\x01"},
		{vec("a1 b1 c1"), "\x03\x01a\x01\x01b\x01\x01c\x01"},
	}, greatClocks()...)
}

// greatClocks are right vectors with as many entries as there may be, or one less, whose bytes rise.
func greatClocks() []clockText {
	return []clockText{
		{entries(63), "\x3f" + entriesBytes(63)},
		{append(entries(63), api.Entry{Actor: "y", Count: 3}), "\x40" + entriesBytes(63) + "\x01y\x03"},
		{entries(64), "\x40" + entriesBytes(64)},
		{append(entries(63), api.Entry{Actor: "1063", Count: 4}), "\x40" + entriesBytes(63) + "\x041063\x04"},
	}
}

// restText is what a right sibling has behind its clock in version 1, and its bytes; in version 2 they are the same behind the metadata.
type restText struct {
	dead  bool
	value string
	s     string
}

// rests are right ones that are short.
func rests() []restText {
	return []restText{
		{false, "v", "\x00\x01v"},
		{true, "", "\x01\x00"},
		{false, "", "\x00\x00"},
		{true, "\x00", "\x01\x01\x00"},
		{false, "\x01k\x01", "\x00\x03\x01k\x01"},
		{true, "\xff\x80", "\x01\x02\xff\x80"},
		{false, long(128), "\x00\x80\x01" + long(128)},
	}
}

// sibText is a right sibling of version 1, the one that it is upgraded, the bytes of both, and the place that it has among those whose clocks' bytes rise.
type sibText struct {
	x     api.OldSib
	y     api.Sibling
	s, t  string
	place int
}

// bothSibs are a clock and what is behind it, as a sibling of each version.
func bothSibs(place int, k clockText, r restText) sibText {
	x := api.OldSib{Clock: k.v, Dead: r.dead, Value: r.value}
	y := api.Sibling{Clock: api.Clock{Ctx: slices.Clone(k.v)}, Dead: r.dead, Value: r.value}
	return sibText{x, y, k.s + r.s, k.s + "\x00" + "\x00" + r.s, place} // no dot, no metadata
}

// sibTexts are siblings with each of the clocks, 28 of them, in the order of those; what they have behind their clocks begins at some place of rests.
func sibTexts(from int) []sibText {
	var l []sibText
	for i, k := range clocks() {
		l = append(l, bothSibs(i, k, rests()[(from+i)%len(rests())]))
	}
	return l
}

// both is a right old object, its bytes, what it is upgraded, and the bytes of that.
type both struct {
	o api.Old
	s string
	q api.Object
	t string
}

// plainKey is a key, and its bytes.
type plainKey struct{ key, s string }

// keys are right ones.
func keys() []plainKey {
	return []plainKey{{"k", "\x01k"}, {"\x00", "\x01\x00"}, {"\xff\x80", "\x02\xff\x80"}, {"key", "\x03key"}, {long(127), "\x7f" + long(127)}, {long(128), "\x80\x01" + long(128)}}
}

// joined is a right old object of right siblings, in the order in which they come; upgraded they are in that of their places.
func joined(k plainKey, l ...sibText) both {
	head := k.s + string([]byte{byte(len(l))})
	b := both{api.Old{Key: k.key}, head, api.Object{Key: k.key}, head}
	for _, x := range l {
		b.o.Sibs = append(b.o.Sibs, x.x)
		b.s += x.s
	}
	for _, x := range inPlace(l) {
		b.q.Sibs = append(b.q.Sibs, x.y)
		b.t += x.t
	}
	return b
}

// inPlace are siblings in the order of their places.
func inPlace(l []sibText) []sibText {
	l = slices.Clone(l)
	slices.SortFunc(l, func(a, b sibText) int { return cmp.Compare(a.place, b.place) })
	return l
}

// backwards is a list from its end on.
func backwards[T any](l []T) []T {
	l = slices.Clone(l)
	slices.Reverse(l)
	return l
}

// turned is a list from a place on, and what is ahead of it behind that.
func turned[T any](l []T, at int) []T {
	return slices.Concat(l[at:], l[:at])
}

// orders are all orders of a list.
func orders[T any](l []T) [][]T {
	if len(l) == 0 {
		return [][]T{nil}
	}
	var all [][]T
	for i, x := range l {
		for _, behind := range orders(slices.Concat(l[:i], l[i+1:])) {
			all = append(all, append([]T{x}, behind...))
		}
	}
	return all
}

// singles have one sibling.
func singles() []both {
	var l []both
	for from := range rests() {
		for i, x := range sibTexts(from) {
			for at := range 3 {
				l = append(l, joined(keys()[(from+i+2*at)%len(keys())], x))
			}
		}
	}
	return l
}

// twos have two siblings, of each pair of clocks, in both orders.
func twos() []both {
	var l []both
	all := sibTexts(3)
	for i, x := range all {
		for j, y := range all {
			if i != j {
				l = append(l, joined(keys()[(i+j)%len(keys())], x, y))
			}
		}
	}
	return l
}

// longs have 3 to 16 siblings, in their order and in others.
func longs() []both {
	var l []both
	for n := 3; n <= 16; n++ {
		all := sibTexts(n)
		for from := 0; from+n <= len(all); from += 1 + n/3 {
			k, row := keys()[(n+from)%len(keys())], all[from:from+n]
			l = append(l, joined(k, row...), joined(k, backwards(row)...), joined(k, turned(row, 1+from%(n-1))...))
		}
		var some []sibText
		for i := 0; len(some) < n; i += 5 {
			some = append(some, all[i%len(all)])
		}
		l = append(l, joined(keys()[n%len(keys())], some...))
	}
	return l
}

// mediums have values at the edges.
func mediums() []both {
	var l []both
	for _, v := range []plainKey{{long(300), "\xac\x02" + long(300)}, {long(16383), "\xff\x7f" + long(16383)}, {long(16384), "\x80\x80\x01" + long(16384)}, {long(32767), "\xff\xff\x01" + long(32767)}, {greatValue, great + greatValue}} {
		x := bothSibs(0, clocks()[0], restText{false, v.key, "\x00" + v.s})
		y := bothSibs(2, clocks()[2], restText{true, v.key, "\x01" + v.s})
		z := bothSibs(11, clocks()[11], restText{true, "", "\x01\x00"})
		l = append(l, joined(keys()[0], x), joined(keys()[5], y), joined(keys()[0], z, y), joined(keys()[5], y, x, z))
	}
	return l
}

// larges are those with about 65,536 bytes, of which some have more as one of both versions alone, and the greatest that there are.
func larges() []both {
	var l []both
	for n := 65530; n <= 65540; n++ {
		l = append(l, sized(n))
	}
	var all, greatest []sibText
	for i := range 16 {
		all = append(all, bothSibs(i, clocks()[i], restText{false, greatValue, "\x00" + great + greatValue}))
		greatest = append(greatest, bothSibs(i, greatClock(i), restText{true, greatValue, "\x01" + great + greatValue}))
	}
	return append(l, joined(keys()[5], all...), joined(keys()[5], backwards(all)...), joined(keys()[5], turned(greatest, 7)...), joined(keys()[0], all[5], all[3], all[4]))
}

// greatClock is a vector with as many bytes as there may be, another one for each i; they rise with it.
func greatClock(i int) clockText {
	var k clockText
	k.s = "\x40"
	for n := range 64 {
		actor := strconv.Itoa(100+i) + long(26) + strconv.Itoa(100+n)
		k.v = append(k.v, api.Entry{Actor: actor, Count: most})
		k.s += "\x20" + actor + mostBytes
	}
	return k
}

// numberOf3 are the bytes of a number of three bytes.
func numberOf3(n int) string {
	return string([]byte{byte(128 + n%128), byte(128 + n/128%128), byte(n / 16384)})
}

// sized has n bytes in version 1, about 65,536, and two siblings: all of it has 32,784 but the first one's value. In version 2 it has 4 more.
func sized(n int) both {
	m := n - 32784
	x := bothSibs(0, clocks()[0], restText{false, long(m), "\x00" + numberOf3(m) + long(m)})
	y := bothSibs(2, clocks()[2], restText{false, greatValue, "\x00" + great + greatValue})
	return joined(keys()[0], y, x)
}

// smalls have few bytes.
func smalls() []both {
	return slices.Concat(singles(), twos(), longs())
}

// rights are right old objects, and what they are upgraded, at all edges.
func rights() []both {
	return slices.Concat(smalls(), mediums(), larges())
}

// each is every n-th element of a list.
func each[T any](l []T, n int) []T {
	var some []T
	for i := 0; i < len(l); i += n {
		some = append(some, l[i])
	}
	return some
}

// few are some of the small ones: of one, of two and of more siblings.
func few() []both {
	return slices.Concat(each(singles(), 37), each(twos(), 29), each(longs(), 11))
}

// plainSibs are the first n of some siblings of version 1 that are right together.
func plainSibs(n int) []api.OldSib {
	var l []api.OldSib
	for _, x := range sibTexts(0)[:n] {
		l = append(l, x.x)
	}
	return l
}

// spoilt is a list in which the element at a place is another one.
func spoilt[T any](l []T, at int, x T) []T {
	l = slices.Clone(l)
	l[at] = x
	return l
}

// sibFault is a sibling of version 1 that isn't right by itself, and why.
type sibFault struct {
	x api.OldSib
	e api.Errno
}

// badSibs are siblings with each of the errors that one has by itself: those of its clock, and a value that is too long.
func badSibs() []sibFault {
	var l []sibFault
	add := func(e api.Errno, v ...api.Entry) {
		l = append(l, sibFault{api.OldSib{Clock: v, Value: "v"}, e})
	}
	add(api.ErrLimit, entries(65)...)
	add(api.ErrLimit, make([]api.Entry, 1000)...)
	add(api.ErrLimit, one(long(33), 0)...)
	add(api.ErrLimit, append(entries(63), one(long(33), 1)...)...)
	add(api.ErrEmpty, one("", 1)...)
	add(api.ErrEmpty, make([]api.Entry, 64)...)
	add(api.ErrEmpty, append(vec("a1"), one("", 0)...)...)
	add(api.ErrOrder, vec("a1 a2")...)
	add(api.ErrOrder, vec("b1 a1")...)
	add(api.ErrOrder, append(one("aa", 1), one("a", 1)...)...)
	add(api.ErrOrder, append(entries(63), one("1000", 3)...)...)
	add(api.ErrZero, vec("a0")...)
	add(api.ErrZero, vec("a1 b0")...)
	add(api.ErrZero, append(entries(63), one("y", 0)...)...)
	for _, b := range each(l, 3) { // the clock's error is told ahead of the value's
		l = append(l, sibFault{api.OldSib{Clock: b.x.Clock, Dead: true, Value: tooGreatValue}, b.e})
	}
	return append(l, sibFault{api.OldSib{Value: tooGreatValue}, api.ErrLimit}, sibFault{sib("a1", true, long(1<<20)), api.ErrLimit}, sibFault{api.OldSib{Clock: entries(64), Value: tooGreatValue}, api.ErrLimit})
}

// fault is an old object that isn't right, and why.
type fault struct {
	o api.Old
	e api.Errno
}

// faults are old objects with each of the errors of layer 17's Check: each of a part, with those behind it right and wrong.
func faults() []fault {
	var l []fault
	rows := slices.Concat(badRows(), rowsWithBadSibs(), rowsWithTwins())
	for _, k := range []keyFault{{"", api.ErrEmpty}, {long(129), api.ErrLimit}, {long(65536), api.ErrLimit}, {strings.Repeat("\x00", 129), api.ErrLimit}} {
		for _, b := range few() {
			l = append(l, fault{api.Old{Key: k.key, Sibs: b.o.Sibs}, k.e})
		}
		for _, r := range each(rows, 7) {
			l = append(l, fault{api.Old{Key: k.key, Sibs: r.l}, k.e})
		}
	}
	for i, r := range rows {
		l = append(l, fault{api.Old{Key: keys()[i%len(keys())].key, Sibs: r.l}, r.e})
	}
	return l
}

// keyFault is a key that isn't right, and why.
type keyFault struct {
	key string
	e   api.Errno
}

// badRow is a row of siblings of which none can be an old object's, whatever its key, and why.
type badRow struct {
	l []api.OldSib
	e api.Errno
}

// badRows have too many siblings, or none.
func badRows() []badRow {
	return []badRow{{nil, api.ErrZero}, {[]api.OldSib{}, api.ErrZero}, {plainSibs(17), api.ErrLimit}, {plainSibs(28), api.ErrLimit}, {make([]api.OldSib, 17), api.ErrLimit}, {make([]api.OldSib, 1000), api.ErrLimit}, {spoilt(plainSibs(17), 0, sib("a0", false, "")), api.ErrLimit}}
}

// rowsWithBadSibs have a sibling that isn't right by itself, with what is wrong behind it too.
func rowsWithBadSibs() []badRow {
	var l []badRow
	bad, all := badSibs(), plainSibs(16)
	same := []api.OldSib{sib("z1", false, "v"), sib("z1", false, "v")}
	for i, b := range bad {
		l = append(l, badRow{[]api.OldSib{b.x}, b.e}, badRow{[]api.OldSib{b.x, b.x}, b.e}, badRow{[]api.OldSib{b.x, bad[(i+5)%len(bad)].x}, b.e})
		for _, n := range []int{2, 3, 16} {
			for _, at := range []int{0, n / 2, n - 1} {
				l = append(l, badRow{spoilt(all[:n], at, b.x), b.e}, badRow{backwards(spoilt(all[:n], at, b.x)), b.e})
			}
		}
		l = append(l, badRow{append([]api.OldSib{b.x}, same...), b.e}, badRow{append(slices.Clone(same), b.x), api.ErrOrder}, badRow{[]api.OldSib{same[0], b.x, same[1]}, b.e})
	}
	return l
}

// rowsWithTwins have right siblings, two of them with the same clock: beside each other, and apart.
func rowsWithTwins() []badRow {
	var l []badRow
	all := plainSibs(28)
	for _, x := range all {
		twin := api.OldSib{Clock: slices.Clone(x.Clock), Dead: !x.Dead, Value: "twin"}
		l = append(l, badRow{[]api.OldSib{x, x}, api.ErrOrder}, badRow{[]api.OldSib{x, twin}, api.ErrOrder}, badRow{[]api.OldSib{twin, sib("z1", false, ""), x}, api.ErrOrder})
	}
	for _, n := range []int{3, 7, 16} {
		for i := range n {
			for j := range i {
				l = append(l, badRow{spoilt(all[:n], i, all[j]), api.ErrOrder})
			}
		}
	}
	return append(l, badRow{make([]api.OldSib, 2), api.ErrOrder}, badRow{make([]api.OldSib, 16), api.ErrOrder})
}

// brief is what a message tells of an old object, or of an object.
func brief(o any) string {
	s := fmt.Sprintf("%+v", o)
	if len(s) > 400 {
		s = s[:300] + " .. " + s[len(s)-80:]
	}
	return strconv.Quote(s)
}

// equalOlds tells whether two old objects have the same parts, in the same order, without asking the program.
func equalOlds(a, b api.Old) bool {
	return a.Key == b.Key && slices.EqualFunc(a.Sibs, b.Sibs, func(x, y api.OldSib) bool {
		return slices.Equal(x.Clock, y.Clock) && x.Dead == y.Dead && x.Value == y.Value
	})
}

// equal tells whether two objects have the same parts, without asking the program.
func equal(a, b api.Object) bool {
	return a.Key == b.Key && slices.EqualFunc(a.Sibs, b.Sibs, func(x, y api.Sibling) bool {
		return slices.Equal(x.Clock.Ctx, y.Clock.Ctx) && x.Clock.Dotted == y.Clock.Dotted && x.Clock.Dot == y.Clock.Dot && slices.Equal(x.Meta, y.Meta) && x.Dead == y.Dead && x.Value == y.Value
	})
}

// clonedOld is an old object in new memory, without asking the program.
func clonedOld(o api.Old) api.Old {
	o.Sibs = slices.Clone(o.Sibs)
	for i, x := range o.Sibs {
		o.Sibs[i].Clock = slices.Clone(x.Clock)
	}
	return o
}

// cloned is an object in new memory, without asking the program.
func cloned(o api.Object) api.Object {
	o.Sibs = slices.Clone(o.Sibs)
	for i, x := range o.Sibs {
		o.Sibs[i].Clock.Ctx = slices.Clone(x.Clock.Ctx)
		o.Sibs[i].Meta = slices.Clone(x.Meta)
	}
	return o
}

// wantUp holds Up against an object and an error.
func wantUp(t *testing.T, o api.Old, want api.Object, e api.Errno) {
	t.Helper()
	if q, got := upgrade.Up(o); !equal(q, want) || got != e {
		t.Fatalf("of %s: %s, error %d; not %s, error %d", brief(o), brief(q), got, brief(want), e)
	}
}

// wantDown holds Down against an old object and an error.
func wantDown(t *testing.T, o api.Object, want api.Old, e api.Errno) {
	t.Helper()
	if q, got := upgrade.Down(o); !equalOlds(q, want) || got != e {
		t.Fatalf("of %s: %s, error %d; not %s, error %d", brief(o), brief(q), got, brief(want), e)
	}
}

// wantPlain holds Plain against whether an object is, and Down against its being refused if it isn't.
func wantPlain(t *testing.T, o api.Object, want bool) {
	t.Helper()
	if got := upgrade.Plain(o); got != want {
		t.Fatalf("%s: %t, not %t", brief(o), got, want)
	}
	if !want {
		wantDown(t, o, api.Old{}, api.ErrArg)
	}
}

// wantRead holds Read against an object and an error.
func wantRead(t *testing.T, version byte, s string, want api.Object, e api.Errno) {
	t.Helper()
	if q, got := upgrade.Read(version, s); !equal(q, want) || got != e {
		t.Fatalf("version %d of %.60q (%d bytes): %s, error %d; not %s, error %d", version, s, len(s), brief(q), got, brief(want), e)
	}
}
