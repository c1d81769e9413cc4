package object_test

import (
	"fmt"
	"math"
	"slices"
	"strconv"
	"strings"
	"testing"

	"spence/api"
	"spence/cursor"
	"spence/object"
	"spence/pen"
)

const most = math.MaxUint64 // the greatest count

// The bytes of numbers at the edges, and of what is none.
const (
	mostBytes = "\xff\xff\xff\xff\xff\xff\xff\xff\xff\x01" // of the greatest one
	nines     = "\x80\x80\x80\x80\x80\x80\x80\x80\x80"     // the tenth byte ends it, or is too great
	great     = "\x80\x80\x02"                             // of 32,768
	tooGreat  = "\x81\x80\x02"                             // of 32,769
)

// anyErrors are errors that a cursor, or a pen, may have, those that aren't named too.
var anyErrors = []api.Errno{api.ErrArg, api.ErrShort, api.ErrLimit, api.ErrOrder, api.ErrZero, api.ErrEmpty, api.ErrDot, api.ErrTrail, api.ErrForm, -1, 19, math.MaxInt, math.MinInt}

// long is a text of n bytes.
func long(n int) string {
	return strings.Repeat("x", n)
}

// The values at the greatest length, and beyond it.
var (
	greatValue    = long(32768)
	tooGreatValue = long(32769)
)

// vec is a vector of actors of one byte with their counts: "a1 c2".
func vec(s string) []api.Entry {
	var v []api.Entry
	for _, w := range strings.Fields(s) {
		n, err := strconv.ParseUint(w[1:], 10, 64)
		if err != nil {
			panic(err)
		}
		v = append(v, api.Entry{Actor: w[:1], Count: n})
	}
	return v
}

// bare is a clock that isn't dotted.
func bare(v []api.Entry) api.Clock {
	return api.Clock{Ctx: v}
}

// dot is a dotted clock.
func dot(v []api.Entry, actor string, n uint64) api.Clock {
	return api.Clock{Ctx: v, Dotted: true, Dot: api.Entry{Actor: actor, Count: n}}
}

// stray is a clock that isn't dotted, and has a dot.
func stray(v []api.Entry, actor string, n uint64) api.Clock {
	return api.Clock{Ctx: v, Dot: api.Entry{Actor: actor, Count: n}}
}

// clk is a clock of actors of one byte: "a1 b2" isn't dotted, "a1 b2 +a3" has the dot a 3.
func clk(s string) api.Clock {
	v, d, dots := strings.Cut(s, "+")
	if !dots {
		return bare(vec(v))
	}
	e := vec(d)[0]
	return dot(vec(v), e.Actor, e.Count)
}

// prs are pairs whose names have one byte, with their values: "t1 u22 w".
func prs(s string) []api.Pair {
	var l []api.Pair
	for _, w := range strings.Fields(s) {
		l = append(l, api.Pair{Name: w[:1], Value: w[1:]})
	}
	return l
}

// sib is a sibling whose clock and metadata are written short.
func sib(clock, meta string, dead bool, value string) api.Sibling {
	return api.Sibling{Clock: clk(clock), Meta: prs(meta), Dead: dead, Value: value}
}

// vals are siblings without metadata, whose clocks are written short, and whose values are those too.
func vals(clocks ...string) []api.Sibling {
	var l []api.Sibling
	for _, k := range clocks {
		l = append(l, sib(k, "", false, k))
	}
	return l
}

// obj is an object of siblings.
func obj(key string, l ...api.Sibling) api.Object {
	return api.Object{Key: key, Sibs: l}
}

// entries is a right vector of n actors, all of four digits, so that they rise; each count is 3.
func entries(n int) []api.Entry {
	var v []api.Entry
	for i := range n {
		v = append(v, api.Entry{Actor: strconv.Itoa(1000 + i), Count: 3})
	}
	return v
}

// entriesBytes are the bytes of entries, 6 of each.
func entriesBytes(n int) string {
	s := ""
	for i := range n {
		s += "\x04" + strconv.Itoa(1000+i) + "\x03"
	}
	return s
}

// many are n pairs, right ones up to 8, all with names of four digits, so that they rise.
func many(n int, value string) []api.Pair {
	var l []api.Pair
	for i := range n {
		l = append(l, api.Pair{Name: strconv.Itoa(1000 + i), Value: value})
	}
	return l
}

// manyBytes are the bytes of many, whose value comes with its length ahead.
func manyBytes(n int, value string) string {
	s := ""
	for i := range n {
		s += "\x04" + strconv.Itoa(1000+i) + value
	}
	return s
}

// clockText is a right clock, and its bytes.
type clockText struct {
	k api.Clock
	s string
}

// clocks are right clocks whose bytes rise, 24 of them. Their order is neither that of their numbers (256 stands ahead of 255) nor that of their actors (aa stands behind b), nor that of how many entries they have alone.
func clocks() []clockText {
	return []clockText{
		{bare(nil), "\x00\x00"},
		{clk("+a1"), "\x00\x01\x01a\x01"},
		{clk("+a2"), "\x00\x01\x01a\x02"},
		{clk("+a256"), "\x00\x01\x01a\x80\x02"},
		{clk("+a255"), "\x00\x01\x01a\xff\x01"},
		{dot(nil, "a", most), "\x00\x01\x01a" + mostBytes},
		{clk("+b1"), "\x00\x01\x01b\x01"},
		{dot(nil, "\xff", 1), "\x00\x01\x01\xff\x01"},
		{dot(nil, "aa", 1), "\x00\x01\x02aa\x01"},
		{dot(nil, long(32), 1), "\x00\x01\x20" + long(32) + "\x01"},
		{dot([]api.Entry{{Actor: "\x00", Count: 1}}, "\x00", 2), "\x01\x01\x00\x01\x01\x01\x00\x02"},
		{clk("a1"), "\x01\x01a\x01\x00"},
		{clk("a1 +a2"), "\x01\x01a\x01\x01\x01a\x02"},
		{clk("a1 +a300"), "\x01\x01a\x01\x01\x01a\xac\x02"},
		{clk("a1 +b1"), "\x01\x01a\x01\x01\x01b\x01"},
		{clk("a2"), "\x01\x01a\x02\x00"},
		{clk("a256"), "\x01\x01a\x80\x02\x00"},
		{clk("a129"), "\x01\x01a\x81\x01\x00"},
		{clk("b1"), "\x01\x01b\x01\x00"},
		{bare([]api.Entry{{Actor: "aa", Count: 1}}), "\x01\x02aa\x01\x00"},
		{clk("a1 b1"), "\x02\x01a\x01\x01b\x01\x00"},
		{clk("a1 b1 +c9"), "\x02\x01a\x01\x01b\x01\x01\x01c\x09"},
		{bare(entries(64)), "\x40" + entriesBytes(64) + "\x00"},
		{dot(entries(64), "\xff\x00", 1), "\x40" + entriesBytes(64) + "\x01\x02\xff\x00\x01"},
	}
}

// restText is what a right sibling has behind its clock, and its bytes.
type restText struct {
	meta  []api.Pair
	dead  bool
	value string
	s     string
}

// rests are right ones that are short.
func rests() []restText {
	return []restText{
		{nil, false, "v", "\x00\x00\x01v"},
		{prs("t1 u22"), true, "w", "\x02\x01t\x011\x01u\x0222\x01\x01w"},
		{[]api.Pair{}, false, "", "\x00\x00\x00"},
		{nil, true, "\x00", "\x00\x01\x01\x00"},
		{prs("t"), false, "\x01k\x01", "\x01\x01t\x00\x00\x03\x01k\x01"},
		{[]api.Pair{{Name: "\x00", Value: "\xff\x80"}}, true, "", "\x01\x01\x00\x02\xff\x80\x01\x00"},
		{many(8, "m"), false, long(128), "\x08" + manyBytes(8, "\x01m") + "\x00\x80\x01" + long(128)},
	}
}

// sibText is a right sibling, and its bytes.
type sibText struct {
	x api.Sibling
	s string
}

// sibTexts are siblings whose clocks' bytes rise, 24 of them; what they have behind their clocks begins at some place of rests.
func sibTexts(from int) []sibText {
	var l []sibText
	for i, k := range clocks() {
		r := rests()[(from+i)%len(rests())]
		l = append(l, sibText{api.Sibling{Clock: k.k, Meta: r.meta, Dead: r.dead, Value: r.value}, k.s + r.s})
	}
	return l
}

// right is a right object, and its bytes.
type right struct {
	o api.Object
	s string
}

// plainKey is a key, and its bytes.
type plainKey struct{ key, s string }

// keys are right ones.
func keys() []plainKey {
	return []plainKey{{"k", "\x01k"}, {"\x00", "\x01\x00"}, {"\xff\x80", "\x02\xff\x80"}, {"key", "\x03key"}, {long(127), "\x7f" + long(127)}, {long(128), "\x80\x01" + long(128)}}
}

// joined is a right object of right parts, and its bytes.
func joined(k plainKey, l ...sibText) right {
	r := right{api.Object{Key: k.key}, k.s + string([]byte{byte(len(l))})}
	for _, x := range l {
		r.o.Sibs = append(r.o.Sibs, x.x)
		r.s += x.s
	}
	return r
}

// singles are right objects with one sibling.
func singles() []right {
	var l []right
	for _, k := range keys() {
		for from := range rests() {
			for _, x := range sibTexts(from) {
				l = append(l, joined(k, x))
			}
		}
	}
	return l
}

// twos are right objects with two siblings, of each pair of clocks.
func twos() []right {
	var l []right
	for i := range clocks() {
		for j := i + 1; j < len(clocks()); j++ {
			x := sibTexts(i + j)
			l = append(l, joined(keys()[(i+j)%len(keys())], x[i], x[j]))
		}
	}
	return l
}

// longs are right objects with 3 to 16 siblings.
func longs() []right {
	var l []right
	for n := 3; n <= 16; n++ {
		for from := 0; from+n <= len(clocks()); from += 1 + n/4 {
			l = append(l, joined(keys()[(n+from)%len(keys())], sibTexts(n)[from:from+n]...))
		}
		skips := sibTexts(n + 1)
		var some []sibText
		for i := 0; i < len(skips) && len(some) < n; i += 2 {
			some = append(some, skips[i])
		}
		l = append(l, joined(keys()[n%len(keys())], some...))
	}
	return l
}

// mediums are right objects with values at the edges; they have at most 65,536 bytes.
func mediums() []right {
	var l []right
	for _, v := range []plainKey{{long(300), "\xac\x02" + long(300)}, {long(16383), "\xff\x7f" + long(16383)}, {long(16384), "\x80\x80\x01" + long(16384)}, {long(32767), "\xff\xff\x01" + long(32767)}, {greatValue, great + greatValue}} {
		one := sibText{api.Sibling{Value: v.key}, "\x00\x00\x00\x00" + v.s}
		two := sibText{api.Sibling{Clock: clk("+a1"), Meta: []api.Pair{{Name: "t", Value: v.key}}, Dead: true}, "\x00\x01\x01a\x01\x01\x01t" + v.s + "\x01\x00"}
		l = append(l, joined(plainKey{"k", "\x01k"}, one), joined(plainKey{long(128), "\x80\x01" + long(128)}, two))
		if len(v.key) < 32767 {
			l = append(l, joined(plainKey{"k", "\x01k"}, one, two))
		}
	}
	return append(l, sized(65535), sized(65536), sizedOfOne(65535), sizedOfOne(65536))
}

// larges are right objects with more than 65,536 bytes.
func larges() []right {
	l := []right{sized(65537), sized(65538), sizedOfOne(65537), sizedOfOne(65538)}
	eight := "\x08" + manyBytes(8, great+greatValue)
	l = append(l, joined(plainKey{"k", "\x01k"}, sibText{api.Sibling{Meta: many(8, greatValue), Dead: true}, "\x00\x00" + eight + "\x01\x00"}))
	var all []sibText
	for _, k := range clocks()[:16] {
		all = append(all, sibText{api.Sibling{Clock: k.k, Value: greatValue}, k.s + "\x00\x00" + great + greatValue})
	}
	return append(l, joined(plainKey{long(128), "\x80\x01" + long(128)}, all...), joined(plainKey{"k", "\x01k"}, all[3:6]...))
}

// numberOf3 are the bytes of a number of three bytes.
func numberOf3(n int) string {
	return string([]byte{byte(128 + n%128), byte(128 + n/128%128), byte(n / 16384)})
}

// sized is a right object of n bytes, about 65,536, with two siblings: all of it has 32,788 but the first one's value.
func sized(n int) right {
	m := n - 32788
	one := sibText{api.Sibling{Value: long(m)}, "\x00\x00\x00\x00" + numberOf3(m) + long(m)}
	two := sibText{api.Sibling{Clock: clk("+a1"), Value: greatValue}, "\x00\x01\x01a\x01\x00\x00" + great + greatValue}
	return joined(plainKey{"k", "\x01k"}, one, two)
}

// sizedOfOne is such an object with one sibling: all of it has 32,783 but its metadata's value.
func sizedOfOne(n int) right {
	m := n - 32783
	return joined(plainKey{"k", "\x01k"}, sibText{api.Sibling{Meta: []api.Pair{{Name: "t", Value: long(m)}}, Value: greatValue}, "\x00\x00\x01\x01t" + numberOf3(m) + long(m) + "\x00" + great + greatValue})
}

// smalls are right objects with few bytes.
func smalls() []right {
	return slices.Concat(singles(), twos(), longs())
}

// rights are right objects, at all edges.
func rights() []right {
	return slices.Concat(smalls(), mediums(), larges())
}

// each is every n-th element of a list.
func each[T any](l []T, n int) []T {
	var some []T
	for i := 0; i < len(l); i += n {
		some = append(some, l[i])
	}
	return some
}

// few are some of the small ones: of one, of two and of more siblings.
func few() []right {
	return slices.Concat(each(singles(), 37), each(twos(), 29), each(longs(), 9))
}

// fault is an object that isn't right, and why.
type fault struct {
	o api.Object
	e api.Errno
}

// sibFault is a sibling that isn't right by itself, and why.
type sibFault struct {
	x api.Sibling
	e api.Errno
}

// badSibs are siblings with each of layer 15's errors.
func badSibs() []sibFault {
	var l []sibFault
	for _, b := range []struct {
		k api.Clock
		e api.Errno
	}{
		{bare(entries(65)), api.ErrLimit}, {bare([]api.Entry{{Actor: long(33), Count: 1}}), api.ErrLimit}, {bare([]api.Entry{{Count: 1}}), api.ErrEmpty}, {clk("a1 a1"), api.ErrOrder}, {clk("b1 a1 +a1"), api.ErrOrder}, {clk("a0"), api.ErrZero},
		{dot(nil, long(33), 1), api.ErrLimit}, {dot(vec("a1"), "", 1), api.ErrEmpty}, {clk("a1 +b0"), api.ErrZero}, {clk("a1 +a1"), api.ErrDot}, {clk("a2 b7 +b6"), api.ErrDot}, {stray(nil, "a", 1), api.ErrArg}, {stray(vec("a1"), "", 1), api.ErrArg}, {stray(nil, "a", 0), api.ErrArg},
	} {
		l = append(l, sibFault{api.Sibling{Clock: b.k, Value: "v"}, b.e})
	}
	for i, b := range []struct {
		l []api.Pair
		e api.Errno
	}{
		{many(9, "v"), api.ErrLimit}, {make([]api.Pair, 9), api.ErrLimit}, {[]api.Pair{{Name: long(33)}}, api.ErrLimit}, {[]api.Pair{{Value: "1"}}, api.ErrEmpty}, {prs("t1 t2"), api.ErrOrder}, {prs("t s"), api.ErrOrder}, {[]api.Pair{{Name: "t", Value: tooGreatValue}}, api.ErrLimit},
	} {
		l = append(l, sibFault{api.Sibling{Clock: clocks()[3*i].k, Meta: b.l, Value: "v"}, b.e})
	}
	return append(l, sibFault{api.Sibling{Value: tooGreatValue}, api.ErrLimit}, sibFault{sib("a1", "t1", true, long(1<<20)), api.ErrLimit}, sibFault{api.Sibling{Clock: bare(entries(64)), Value: tooGreatValue}, api.ErrLimit}, sibFault{sib("a1 +a1", "t s", false, tooGreatValue), api.ErrDot}, sibFault{sib("+a1", "t s", false, tooGreatValue), api.ErrOrder})
}

// keyFault is a key that isn't right, and why.
type keyFault struct {
	key string
	e   api.Errno
}

// badKeys are keys with each of the errors.
func badKeys() []keyFault {
	return []keyFault{{"", api.ErrEmpty}, {long(129), api.ErrLimit}, {long(130), api.ErrLimit}, {long(65536), api.ErrLimit}, {strings.Repeat("\x00", 129), api.ErrLimit}}
}

// plainSibs are the first n siblings of some that are right, and rise.
func plainSibs(n int) []api.Sibling {
	var l []api.Sibling
	for _, x := range sibTexts(0)[:n] {
		l = append(l, x.x)
	}
	return l
}

// spoilt is a list in which the element at a place is another one.
func spoilt[T any](l []T, at int, x T) []T {
	l = slices.Clone(l)
	l[at] = x
	return l
}

// badRows are rows of siblings of which none can be an object's, whatever its key: why, as of Check, and as of Sort (OK: those can be sorted).
func badRows() []badRow {
	l := []badRow{{nil, api.ErrZero, api.ErrZero}, {[]api.Sibling{}, api.ErrZero, api.ErrZero}, {plainSibs(17), api.ErrLimit, api.ErrLimit}, {plainSibs(24), api.ErrLimit, api.ErrLimit}, {make([]api.Sibling, 17), api.ErrLimit, api.ErrLimit}, {make([]api.Sibling, 1000), api.ErrLimit, api.ErrLimit}, {spoilt(plainSibs(17), 0, sib("a0", "", false, "")), api.ErrLimit, api.ErrLimit}}
	return slices.Concat(l, rowsWithBadSibs(), rowsOutOfOrder())
}

// badRow is such a row, and its errors.
type badRow struct {
	l           []api.Sibling
	check, sort api.Errno
}

// rowsWithBadSibs have a sibling that isn't right, with what is wrong behind it too.
func rowsWithBadSibs() []badRow {
	var l []badRow
	bad := badSibs()
	for _, b := range bad {
		l = append(l, badRow{[]api.Sibling{b.x}, b.e, b.e}, badRow{[]api.Sibling{b.x, b.x}, b.e, b.e})
		for _, n := range []int{2, 3, 16} {
			for _, at := range []int{0, n / 2, n - 1} {
				l = append(l, badRow{spoilt(plainSibs(n), at, b.x), b.e, b.e})
			}
		}
		for _, behind := range bad { // behind right ones that rise, ahead of another one that isn't right
			l = append(l, badRow{append(plainSibs(2), b.x, behind.x), b.e, b.e})
		}
		same := vals("+a1", "+a1")
		l = append(l, badRow{append([]api.Sibling{b.x}, same...), b.e, b.e}, badRow{append(slices.Clone(same), b.x), api.ErrOrder, b.e}, badRow{append(vals("a2", "a1"), b.x), api.ErrOrder, b.e})
	}
	return l
}

// rowsOutOfOrder have right siblings whose clocks' bytes don't rise.
func rowsOutOfOrder() []badRow {
	var l []badRow
	add := func(sort api.Errno, row ...api.Sibling) {
		l = append(l, badRow{row, api.ErrOrder, sort})
	}
	all := plainSibs(24)
	for i := range all {
		twin := all[i]
		twin.Dead, twin.Value = !twin.Dead, "twin"
		add(api.ErrOrder, all[i], all[i])
		add(api.ErrOrder, all[i], twin)
		for j := range i {
			add(api.OK, all[i], all[j])
		}
	}
	for n := 3; n <= 16; n++ {
		row := plainSibs(n)
		back := slices.Clone(row)
		slices.Reverse(back)
		add(api.OK, back...)
		for at := 1; at < n; at++ {
			add(api.ErrOrder, spoilt(row, at, row[at-1])...)
			add(api.ErrOrder, spoilt(row, n-1, row[at-1])...)
			swapped := slices.Clone(row)
			swapped[at-1], swapped[at] = swapped[at], swapped[at-1]
			add(api.OK, swapped...)
		}
	}
	return l
}

// faults are objects with each of Check's errors: each of a part, with those behind it right and wrong.
func faults() []fault {
	var l []fault
	some, bad := each(rights(), 31), badRows()
	for _, k := range badKeys() {
		for _, r := range some {
			l = append(l, fault{api.Object{Key: k.key, Sibs: r.o.Sibs}, k.e})
		}
		for _, b := range each(bad, 17) {
			l = append(l, fault{api.Object{Key: k.key, Sibs: b.l}, k.e})
		}
	}
	for i, b := range bad {
		l = append(l, fault{api.Object{Key: keys()[i%len(keys())].key, Sibs: b.l}, b.check})
	}
	return l
}

// someFaults are some of the faults, each error of each part among them.
func someFaults() []fault {
	l := each(faults(), 41)
	for _, b := range badSibs() {
		l = append(l, fault{obj("k", b.x), b.e})
	}
	return append(l, fault{obj("k"), api.ErrZero}, fault{obj("k", make([]api.Sibling, 17)...), api.ErrLimit}, fault{obj("", plainSibs(1)...), api.ErrEmpty}, fault{obj(long(129), plainSibs(1)...), api.ErrLimit}, fault{obj("k", vals("a1", "a1")...), api.ErrOrder})
}

// wrong is a text that begins with no object: the error, and the place behind it.
type wrong struct {
	s  string
	e  api.Errno
	at int
}

// wrongKeys are texts with each of the errors of reading a key, but for bytes that end too early.
func wrongKeys() []wrong {
	return []wrong{
		{"\x81\x01", api.ErrLimit, 2}, {"\x81\x01" + long(129), api.ErrLimit, 2}, {"\xff\x01", api.ErrLimit, 2}, {"\x80\x02", api.ErrLimit, 2}, {"\x80\x80\x80\x80\x10", api.ErrLimit, 5}, {mostBytes, api.ErrLimit, 10}, {nines + "\x01", api.ErrLimit, 10},
		{"\x80\x00", api.ErrMinimal, 1}, {"\x81\x00k", api.ErrMinimal, 1}, {"\x80\x81\x00", api.ErrMinimal, 2}, {"\x81\x81\x00", api.ErrMinimal, 2}, {nines + "\x00", api.ErrMinimal, 9}, {nines + "\x02", api.ErrOver, 9}, {nines + "\x80", api.ErrOver, 9}, {nines + "\xff\x01", api.ErrOver, 9},
		{"\x00", api.ErrEmpty, 1},
	}
}

// wrongCounts are texts with each of the errors of reading how many siblings there are, but for bytes that end too early.
func wrongCounts() []wrong {
	return []wrong{
		{"\x11", api.ErrLimit, 1}, {"\x12", api.ErrLimit, 1}, {"\x7f", api.ErrLimit, 1}, {"\x80\x01", api.ErrLimit, 2}, {"\x90\x01", api.ErrLimit, 2}, {"\x81\x80\x80\x80\x10", api.ErrLimit, 5}, {mostBytes, api.ErrLimit, 10}, {nines + "\x01", api.ErrLimit, 10},
		{"\x80\x00", api.ErrMinimal, 1}, {"\x81\x00", api.ErrMinimal, 1}, {"\x90\x00", api.ErrMinimal, 1}, {"\x81\x80\x00", api.ErrMinimal, 2}, {nines + "\x00", api.ErrMinimal, 9}, {nines + "\x02", api.ErrOver, 9}, {nines + "\xff", api.ErrOver, 9},
		{"\x00", api.ErrZero, 1},
	}
}

// wrongSibs are texts with each of the errors of reading a sibling, but for bytes that end too early.
func wrongSibs() []wrong {
	return []wrong{
		{"\x41", api.ErrLimit, 1}, {"\x80\x00", api.ErrMinimal, 1}, {nines + "\x02", api.ErrOver, 9}, {"\x01\x21" + long(33), api.ErrLimit, 2}, {"\x01\x00", api.ErrEmpty, 2}, {"\x02\x01b\x01\x01a", api.ErrOrder, 6}, {"\x01\x01a\x00", api.ErrZero, 4},
		{"\x00\x02", api.ErrFlag, 2}, {"\x01\x01a\x01\xff", api.ErrFlag, 5}, {"\x00\x01\x21", api.ErrLimit, 3}, {"\x00\x01\x00", api.ErrEmpty, 3}, {"\x00\x01\x01a\x81\x00", api.ErrMinimal, 5}, {"\x00\x01\x01a\x00", api.ErrZero, 5}, {"\x01\x01a\x02\x01\x01a\x02", api.ErrDot, 8},
		{"\x00\x00\x09", api.ErrLimit, 3}, {"\x00\x00\x80\x00", api.ErrMinimal, 3}, {"\x00\x00\x01\x21" + long(33), api.ErrLimit, 4}, {"\x00\x00\x01\x00", api.ErrEmpty, 4}, {"\x00\x00\x02\x01b\x00\x01a", api.ErrOrder, 8}, {"\x00\x00\x02\x01b\x011\x01b\x012", api.ErrOrder, 9}, {"\x00\x00\x01\x01t" + tooGreat, api.ErrLimit, 8},
		{"\x00\x00\x00\x02", api.ErrFlag, 4}, {"\x00\x01\x01b\x01\x00\x80", api.ErrFlag, 7}, {"\x00\x00\x00\x00" + tooGreat, api.ErrLimit, 7}, {"\x00\x00\x00\x01" + mostBytes, api.ErrLimit, 14}, {"\x00\x00\x00\x01\x81\x00v", api.ErrMinimal, 5}, {"\x00\x00\x00\x00" + nines + "\x02", api.ErrOver, 13},
	}
}

// wrongOrders are texts of two siblings and more whose clocks' bytes don't rise: the place is behind the one that isn't above the one ahead.
func wrongOrders() []wrong {
	var l []wrong
	all := sibTexts(0)
	for i, x := range all {
		for j := range i + 1 {
			y := sibTexts(j)[j]
			l = append(l, wrong{x.s + y.s, api.ErrOrder, len(x.s) + len(y.s)})
		}
	}
	return l
}

// wrongs are texts with each of the errors of reading: of each part, with what is behind it right and wrong.
func wrongs() []wrong {
	var l []wrong
	add := func(ahead string, of []wrong, behind ...string) {
		for _, w := range of {
			for _, s := range behind {
				l = append(l, wrong{ahead + w.s + s, w.e, len(ahead) + w.at})
			}
		}
	}
	add("", wrongKeys(), "", "\x01", "\x01\x00\x00\x00\x00\x00", "\x00", "\x11", "\x80\x00", "\x01\x41")
	for _, k := range keys() {
		add(k.s, wrongCounts(), "", "\x00\x00\x00\x00\x00", "\x41", "\x80\x00")
		add(k.s+"\x01", wrongSibs(), "", "\x00")
		add(k.s+"\x02", wrongSibs(), "", "\x00\x00\x00\x00\x00")
		add(k.s+"\x02", wrongOrders(), "")
		add(k.s+"\x03", wrongOrders(), "", "\x41", "\x00\x00\x00\x00\x00")
	}
	for n := 1; n < 16; n++ {
		ahead := joined(plainKey{"k", "\x01k"}, sibTexts(n)[:n]...).s
		ahead = "\x01k\x10" + ahead[3:] // 16 of them are to come
		add(ahead, wrongSibs(), "", "\x00\x00\x00\x00\x00")
		add(ahead, []wrong{{"\x00\x00\x00\x00\x01v", api.ErrOrder, 6}}, "", "\x41")
		add(ahead, []wrong{{"\x00\x00\x00\x02", api.ErrFlag, 4}, {"\x00\x00\x09", api.ErrLimit, 3}}, "", "\x00")
	}
	return l
}

// shorts are texts that end too early: the place is that of the part that isn't there, of a number that of its missing byte.
func shorts() []wrong {
	return []wrong{
		{"", api.ErrShort, 0}, {"\x80", api.ErrShort, 1}, {nines, api.ErrShort, 9}, {"\x01", api.ErrShort, 1}, {"\x02k", api.ErrShort, 1}, {"\x80\x01" + long(127), api.ErrShort, 2},
		{"\x01k", api.ErrShort, 2}, {"\x01k\x80", api.ErrShort, 3}, {"\x01k\x81", api.ErrShort, 3}, {"\x01k" + nines, api.ErrShort, 11}, {"\x01k\x01", api.ErrShort, 3}, {"\x01k\x10", api.ErrShort, 3},
		{"\x01k\x01\x00", api.ErrShort, 4}, {"\x01k\x01\x00\x00", api.ErrShort, 5}, {"\x01k\x01\x00\x00\x00", api.ErrShort, 6}, {"\x01k\x01\x00\x00\x00\x00", api.ErrShort, 7}, {"\x01k\x01\x00\x00\x00\x00\x02v", api.ErrShort, 8},
		{"\x01k\x02\x00\x00\x00\x00\x00", api.ErrShort, 8}, {"\x01k\x02\x00\x00\x00\x00\x00\x00", api.ErrShort, 9}, {"\x01k\x02\x00\x00\x00\x00\x00\x00\x00\x00\x00", api.ErrShort, 12}, {"\x01k\x02\x01\x01b\x01\x00\x00\x00\x00\x01\x01a\x01\x00\x00\x00", api.ErrShort, 18},
	}
}

// brief is what a message tells of an object.
func brief(o api.Object) string {
	s := fmt.Sprintf("%+v", o)
	if len(s) > 400 {
		s = s[:300] + " .. " + s[len(s)-80:]
	}
	return strconv.Quote(s)
}

// alikeSibs tells whether two siblings have the same parts, without asking the program.
func alikeSibs(a, b api.Sibling) bool {
	return slices.Equal(a.Clock.Ctx, b.Clock.Ctx) && a.Clock.Dotted == b.Clock.Dotted && a.Clock.Dot == b.Clock.Dot && slices.Equal(a.Meta, b.Meta) && a.Dead == b.Dead && a.Value == b.Value
}

// alike tells whether two objects have the same parts, without asking the program.
func alike(a, b api.Object) bool {
	return a.Key == b.Key && slices.EqualFunc(a.Sibs, b.Sibs, alikeSibs)
}

// clonedSib is a sibling in new memory, without asking the program.
func clonedSib(x api.Sibling) api.Sibling {
	x.Clock.Ctx = slices.Clone(x.Clock.Ctx)
	x.Meta = slices.Clone(x.Meta)
	return x
}

// cloned is an object in new memory, without asking the program.
func cloned(o api.Object) api.Object {
	o.Sibs = slices.Clone(o.Sibs)
	for i := range o.Sibs {
		o.Sibs[i] = clonedSib(o.Sibs[i])
	}
	return o
}

// wantCursor holds a cursor against its place and its error.
func wantCursor(t *testing.T, s string, c *cursor.Cursor, at int, e api.Errno) {
	t.Helper()
	if c.At() != at || c.Err() != e {
		t.Fatalf("%.60q: at %d with the error %d, not at %d with %d", s, c.At(), c.Err(), at, e)
	}
}

// wantNone holds Take of a cursor with an error against there being nothing, and the cursor against what it was.
func wantNone(t *testing.T, s string, c *cursor.Cursor) {
	t.Helper()
	at, e := c.At(), c.Err()
	for range 2 {
		if o := object.Take(c); !alike(o, api.Object{}) {
			t.Fatalf("%.60q with the error %d: %s", s, e, brief(o))
		}
		wantCursor(t, s, c, at, e)
	}
}

// wantTaken holds Take of a text at a place against an object, the place behind it, and an error.
func wantTaken(t *testing.T, s string, from int, want api.Object, at int, e api.Errno) {
	t.Helper()
	c := cursor.New(s)
	c.Bytes(from)
	if o := object.Take(c); !alike(o, want) {
		t.Fatalf("%.60q from %d: %s, not %s", s, from, brief(o), brief(want))
	}
	wantCursor(t, s, c, at, e)
	if e != api.OK {
		wantNone(t, s, c)
	}
}

// wantPen holds a pen against its text (empty beside an error), how much was written, and its error.
func wantPen(t *testing.T, p *pen.Pen, text string, n int, e api.Errno) {
	t.Helper()
	if s, end := p.End(); s != text || end != e || p.Err() != e || p.Len() != n {
		t.Fatalf("the pen has %.60q, %d, %d bytes, not %.60q, %d, %d bytes", s, end, p.Len(), text, e, n)
	}
}

// wantChecked holds Check against an error.
func wantChecked(t *testing.T, o api.Object, e api.Errno) {
	t.Helper()
	if got := object.Check(o); got != e {
		t.Fatalf("%s: %d, not %d", brief(o), got, e)
	}
}

// wantEncoded holds Encode against a text and an error.
func wantEncoded(t *testing.T, o api.Object, want string, e api.Errno) {
	t.Helper()
	if s, got := object.Encode(o); s != want || got != e {
		t.Fatalf("of %s: %.60q (%d bytes), error %d; not %.60q (%d bytes), error %d", brief(o), s, len(s), got, want, len(want), e)
	}
}

// wantDecoded holds Decode against an object and an error.
func wantDecoded(t *testing.T, s string, want api.Object, e api.Errno) {
	t.Helper()
	if o, got := object.Decode(s); !alike(o, want) || got != e {
		t.Fatalf("of %.60q (%d bytes): %s, error %d; not %s, error %d", s, len(s), brief(o), got, brief(want), e)
	}
}

// wantSorted holds Sort against an object and an error.
func wantSorted(t *testing.T, key string, l []api.Sibling, want api.Object, e api.Errno) {
	t.Helper()
	if o, got := object.Sort(key, l...); !alike(o, want) || got != e {
		t.Fatalf("of %s: %s, error %d; not %s, error %d", brief(obj(key, l...)), brief(o), got, brief(want), e)
	}
}

// wantSame holds Same against whether two objects are, asked both ways.
func wantSame(t *testing.T, a, b api.Object, want bool) {
	t.Helper()
	if object.Same(a, b) != want || object.Same(b, a) != want {
		t.Fatalf("%s and %s: %t, %t, not %t", brief(a), brief(b), object.Same(a, b), object.Same(b, a), want)
	}
}
