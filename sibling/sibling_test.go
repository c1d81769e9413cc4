package sibling_test

import (
	"fmt"
	"math"
	"slices"
	"strconv"
	"strings"
	"testing"

	"spence/api"
	"spence/cursor"
	"spence/pen"
	"spence/sibling"
)

const most = math.MaxUint64 // the greatest count

// The bytes of numbers at the edges, and of what is none.
const (
	mostBytes = "\xff\xff\xff\xff\xff\xff\xff\xff\xff\x01" // of the greatest one
	nines     = "\x80\x80\x80\x80\x80\x80\x80\x80\x80"     // the tenth byte ends it, or is too great
	great     = "\x80\x80\x02"                             // of 32,768
	tooGreat  = "\x81\x80\x02"                             // of 32,769
)

// anyErrors are errors that a cursor, or a pen, may have, those that aren't named too.
var anyErrors = []api.Errno{api.ErrArg, api.ErrShort, api.ErrLimit, api.ErrFlag, api.ErrEmpty, api.ErrDot, api.ErrTrail, api.ErrForm, -1, 19, math.MaxInt, math.MinInt}

// long is a text of n bytes.
func long(n int) string {
	return strings.Repeat("x", n)
}

// The values at the greatest length, and beyond it.
var (
	greatValue    = long(32768)
	tooGreatValue = long(32769)
)

// vec is a vector of actors of one byte with their counts: "a1 c2".
func vec(s string) []api.Entry {
	var v []api.Entry
	for _, w := range strings.Fields(s) {
		n, err := strconv.ParseUint(w[1:], 10, 64)
		if err != nil {
			panic(err)
		}
		v = append(v, api.Entry{Actor: w[:1], Count: n})
	}
	return v
}

// bare is a clock that isn't dotted.
func bare(v []api.Entry) api.Clock {
	return api.Clock{Ctx: v}
}

// dot is a dotted clock.
func dot(v []api.Entry, actor string, n uint64) api.Clock {
	return api.Clock{Ctx: v, Dotted: true, Dot: api.Entry{Actor: actor, Count: n}}
}

// stray is a clock that isn't dotted, and has a dot.
func stray(v []api.Entry, actor string, n uint64) api.Clock {
	return api.Clock{Ctx: v, Dot: api.Entry{Actor: actor, Count: n}}
}

// clk is a clock of actors of one byte: "a1 b2" isn't dotted, "a1 b2 +a3" has the dot a 3.
func clk(s string) api.Clock {
	v, d, dots := strings.Cut(s, "+")
	if !dots {
		return bare(vec(v))
	}
	e := vec(d)[0]
	return dot(vec(v), e.Actor, e.Count)
}

// prs are pairs whose names have one byte, with their values: "t1 u22 w".
func prs(s string) []api.Pair {
	var l []api.Pair
	for _, w := range strings.Fields(s) {
		l = append(l, api.Pair{Name: w[:1], Value: w[1:]})
	}
	return l
}

// sib is a sibling whose clock and metadata are written short.
func sib(clock, meta string, dead bool, value string) api.Sibling {
	return api.Sibling{Clock: clk(clock), Meta: prs(meta), Dead: dead, Value: value}
}

// entries is a right vector of n actors, all of four digits, so that they rise; each count is 3.
func entries(n int) []api.Entry {
	var v []api.Entry
	for i := range n {
		v = append(v, api.Entry{Actor: strconv.Itoa(1000 + i), Count: 3})
	}
	return v
}

// entriesBytes are the bytes of entries, 6 of each.
func entriesBytes(n int) string {
	s := ""
	for i := range n {
		s += "\x04" + strconv.Itoa(1000+i) + "\x03"
	}
	return s
}

// many are n pairs, right ones up to 8, all with names of four digits, so that they rise.
func many(n int, value string) []api.Pair {
	var l []api.Pair
	for i := range n {
		l = append(l, api.Pair{Name: strconv.Itoa(1000 + i), Value: value})
	}
	return l
}

// manyBytes are the bytes of many, whose value comes with its length ahead.
func manyBytes(n int, value string) string {
	s := ""
	for i := range n {
		s += "\x04" + strconv.Itoa(1000+i) + value
	}
	return s
}

// spoilt is a list in which the element at a place is another one.
func spoilt[T any](l []T, at int, x T) []T {
	l = slices.Clone(l)
	l[at] = x
	return l
}

// clockText is a right clock, and its bytes.
type clockText struct {
	k api.Clock
	s string
}

// clocks are right clocks: empty ones, plain ones, dotted ones.
func clocks() []clockText {
	return []clockText{
		{bare(nil), "\x00\x00"}, {bare([]api.Entry{}), "\x00\x00"},
		{clk("a1"), "\x01\x01a\x01\x00"}, {clk("a2 b300"), "\x02\x01a\x02\x01b\xac\x02\x00"}, {bare(entries(64)), "\x40" + entriesBytes(64) + "\x00"},
		{clk("+a1"), "\x00\x01\x01a\x01"}, {clk("a1 +a2"), "\x01\x01a\x01\x01\x01a\x02"}, {clk("a1 +a300"), "\x01\x01a\x01\x01\x01a\xac\x02"}, {clk("b2 +a1"), "\x01\x01b\x02\x01\x01a\x01"}, {dot(nil, long(32), most), "\x00\x01\x20" + long(32) + mostBytes}, {dot(entries(64), "\xff\x00", 1), "\x40" + entriesBytes(64) + "\x01\x02\xff\x00\x01"},
	}
}

// metaText is right metadata, and its bytes.
type metaText struct {
	l []api.Pair
	s string
}

// metas are right ones: of none, of one, of more, of 8 pairs.
func metas() []metaText {
	return []metaText{
		{nil, "\x00"}, {[]api.Pair{}, "\x00"},
		{prs("t"), "\x01\x01t\x00"}, {prs("t1"), "\x01\x01t\x011"}, {prs("t1 u22"), "\x02\x01t\x011\x01u\x0222"}, {many(8, "v"), "\x08" + manyBytes(8, "\x01v")},
		{[]api.Pair{{Name: "\x00", Value: "\xff\x80"}}, "\x01\x01\x00\x02\xff\x80"}, {[]api.Pair{{Name: long(32), Value: long(128)}}, "\x01\x20" + long(32) + "\x80\x01" + long(128)},
	}
}

// valueText is a value, and its bytes with the length ahead.
type valueText struct{ v, s string }

// values are right ones that are short.
func values() []valueText {
	return []valueText{{"", "\x00"}, {"v", "\x01v"}, {"\x00", "\x01\x00"}, {"\x01v\x00", "\x03\x01v\x00"}, {"\xff\x80", "\x02\xff\x80"}, {long(127), "\x7f" + long(127)}, {long(128), "\x80\x01" + long(128)}}
}

// right is a right sibling, and its bytes.
type right struct {
	x api.Sibling
	s string
}

// joined is a right sibling of right parts, and its bytes.
func joined(k clockText, m metaText, dead bool, v valueText) right {
	flag := "\x00"
	if dead {
		flag = "\x01"
	}
	return right{api.Sibling{Clock: k.k, Meta: m.l, Dead: dead, Value: v.v}, k.s + m.s + flag + v.s}
}

// smalls are right siblings with few bytes: each clock with each metadata, dead and alive, and each value.
func smalls() []right {
	var l []right
	for _, k := range clocks() {
		for _, m := range metas() {
			for _, v := range values() {
				l = append(l, joined(k, m, false, v), joined(k, m, true, v))
			}
		}
	}
	return l
}

// mediums are right siblings with values at the edges, of their own and of their metadata; they have at most 65,536 bytes.
func mediums() []right {
	var l []right
	for _, k := range []clockText{{bare(nil), "\x00\x00"}, {clk("a1 +a2"), "\x01\x01a\x01\x01\x01a\x02"}} {
		for _, v := range []valueText{{long(300), "\xac\x02" + long(300)}, {long(16383), "\xff\x7f" + long(16383)}, {long(16384), "\x80\x80\x01" + long(16384)}, {long(32767), "\xff\xff\x01" + long(32767)}, {greatValue, great + greatValue}} {
			l = append(l, joined(k, metaText{nil, "\x00"}, true, v), joined(k, metaText{prs("t1"), "\x01\x01t\x011"}, false, v))
			if len(v.v) < 32767 {
				l = append(l, joined(k, metaText{[]api.Pair{{Name: "t", Value: greatValue}}, "\x01\x01t" + great + greatValue}, false, v))
			}
		}
	}
	return l
}

// larges are right siblings with more than 65,536 bytes.
func larges() []right {
	pair := metaText{[]api.Pair{{Name: "t", Value: greatValue}}, "\x01\x01t" + great + greatValue}
	eight := metaText{many(8, greatValue), "\x08" + manyBytes(8, great+greatValue)}
	short, longest := valueText{"v", "\x01v"}, valueText{greatValue, great + greatValue}
	l := []right{sized(65537), sized(65538), joined(clockText{bare(nil), "\x00\x00"}, eight, true, valueText{"", "\x00"})}
	for _, k := range clocks() {
		l = append(l, joined(k, pair, false, longest), joined(k, eight, true, short), joined(k, eight, false, longest))
	}
	return l
}

// sized is a right sibling of n bytes, about 65,536: all of its parts have 32,780 but the metadata's value.
func sized(n int) right {
	m := n - 32780
	number := string([]byte{byte(128 + m%128), byte(128 + m/128%128), byte(m / 16384)})
	meta := metaText{[]api.Pair{{Name: "t", Value: long(m)}}, "\x01\x01t" + number + long(m)}
	return joined(clockText{bare(nil), "\x00\x00"}, meta, false, valueText{greatValue, great + greatValue})
}

// rights are right siblings, at all edges.
func rights() []right {
	return slices.Concat(smalls(), mediums(), larges())
}

// few are some of the small ones, so that each clock, each metadata, each flag and each value is among them.
func few() []right {
	var l []right
	for i, r := range smalls() {
		if i%13 == 0 {
			l = append(l, r)
		}
	}
	return l
}

// badClocks are clocks with each of layer 12's errors.
func badClocks() []fault {
	var l []fault
	for _, b := range []struct {
		k api.Clock
		e api.Errno
	}{
		{bare(entries(65)), api.ErrLimit}, {bare([]api.Entry{{Actor: long(33), Count: 1}}), api.ErrLimit}, {bare([]api.Entry{{Count: 1}}), api.ErrEmpty}, {clk("a1 a1"), api.ErrOrder}, {clk("b1 a1 +a1"), api.ErrOrder}, {clk("a0"), api.ErrZero}, {bare(spoilt(entries(64), 63, api.Entry{Actor: "z"})), api.ErrZero},
		{dot(nil, long(33), 1), api.ErrLimit}, {dot(vec("a1"), "", 1), api.ErrEmpty}, {clk("a1 +b0"), api.ErrZero}, {clk("a1 +a1"), api.ErrDot}, {clk("a2 b7 +b6"), api.ErrDot}, {stray(nil, "a", 1), api.ErrArg}, {stray(vec("a1"), "a", 2), api.ErrArg}, {stray(nil, "", 1), api.ErrArg}, {stray(nil, "a", 0), api.ErrArg},
	} {
		l = append(l, fault{api.Sibling{Clock: b.k}, b.e})
	}
	return l
}

// badMetas are metadata with each of layer 14's errors.
func badMetas() []fault {
	var l []fault
	for _, b := range []struct {
		l []api.Pair
		e api.Errno
	}{
		{many(9, "v"), api.ErrLimit}, {make([]api.Pair, 9), api.ErrLimit}, {[]api.Pair{{Name: long(33)}}, api.ErrLimit}, {[]api.Pair{{Value: "1"}}, api.ErrEmpty}, {spoilt(many(8, "v"), 7, api.Pair{}), api.ErrEmpty}, {prs("t1 t2"), api.ErrOrder}, {prs("t s"), api.ErrOrder}, {append(prs("t"), api.Pair{Name: "s", Value: tooGreatValue}), api.ErrOrder}, {[]api.Pair{{Name: "t", Value: tooGreatValue}}, api.ErrLimit}, {spoilt(many(8, "v"), 7, api.Pair{Name: "z", Value: tooGreatValue}), api.ErrLimit},
	} {
		l = append(l, fault{api.Sibling{Meta: b.l}, b.e})
	}
	return l
}

// badValues are values that are too long.
func badValues() []string {
	return []string{tooGreatValue, long(32770), long(65536), long(1 << 20), strings.Repeat("\x00", 32769)}
}

// fault is a sibling that isn't right, and why.
type fault struct {
	x api.Sibling
	e api.Errno
}

// faults are siblings with each of Check's errors: each of a part, with those behind it right and wrong.
func faults() []fault {
	var l []fault
	add := func(k api.Clock, m []api.Pair, v string, e api.Errno) {
		l = append(l, fault{api.Sibling{Clock: k, Meta: m, Dead: len(l)%2 == 0, Value: v}, e})
	}
	for _, v := range append(badValues(), "", "v", greatValue) {
		for _, k := range badClocks() {
			for _, m := range metas() {
				add(k.x.Clock, m.l, v, k.e)
			}
			for _, m := range badMetas() {
				add(k.x.Clock, m.x.Meta, v, k.e)
			}
		}
		for _, k := range clocks() {
			for _, m := range badMetas() {
				add(k.k, m.x.Meta, v, m.e)
			}
		}
	}
	for _, v := range badValues() {
		for _, k := range clocks() {
			for _, m := range append(metas(), metaText{l: many(8, greatValue)}) {
				add(k.k, m.l, v, api.ErrLimit)
			}
		}
	}
	return l
}

// someFaults are some of the faults, each error of each part among them.
func someFaults() []fault {
	var l []fault
	for i, f := range faults() {
		if i%37 == 0 {
			l = append(l, f)
		}
	}
	return slices.Concat(l, badClocks(), badMetas(), []fault{{api.Sibling{Value: tooGreatValue}, api.ErrLimit}})
}

// wrong is a text that begins with no sibling: the error, and the place behind it.
type wrong struct {
	s  string
	e  api.Errno
	at int
}

// wrongClocks are texts with each of the errors of reading a clock, but for bytes that end too early.
func wrongClocks() []wrong {
	return []wrong{
		{"\x41", api.ErrLimit, 1}, {"\x80\x00", api.ErrMinimal, 1}, {nines + "\x02", api.ErrOver, 9}, {"\x01\x21" + long(33), api.ErrLimit, 2}, {"\x01\x00", api.ErrEmpty, 2}, {"\x02\x01b\x01\x01a", api.ErrOrder, 6}, {"\x01\x01a\x00", api.ErrZero, 4},
		{"\x00\x02", api.ErrFlag, 2}, {"\x01\x01a\x01\xff", api.ErrFlag, 5}, {"\x00\x01\x21", api.ErrLimit, 3}, {"\x00\x01\x00", api.ErrEmpty, 3}, {"\x00\x01\x01a\x81\x00", api.ErrMinimal, 5}, {"\x00\x01\x01a\x00", api.ErrZero, 5}, {"\x01\x01a\x02\x01\x01a\x02", api.ErrDot, 8},
	}
}

// wrongMetas are texts with each of the errors of reading metadata, but for bytes that end too early.
func wrongMetas() []wrong {
	return []wrong{
		{"\x09", api.ErrLimit, 1}, {"\x80\x00", api.ErrMinimal, 1}, {nines + "\x02", api.ErrOver, 9}, {"\x01\x21" + long(33), api.ErrLimit, 2}, {"\x01\x81\x00t\x00", api.ErrMinimal, 2}, {"\x01\x00", api.ErrEmpty, 2}, {"\x02\x01b\x00\x01a", api.ErrOrder, 6}, {"\x02\x01b\x011\x01b\x012", api.ErrOrder, 7}, {"\x01\x01t" + tooGreat, api.ErrLimit, 6}, {"\x01\x01t\x81\x00v", api.ErrMinimal, 4}, {"\x01\x01t" + nines + "\x02", api.ErrOver, 12},
	}
}

// wrongValues are texts with each of the errors of reading a value, but for bytes that end too early.
func wrongValues() []wrong {
	return []wrong{
		{tooGreat, api.ErrLimit, 3}, {tooGreat + tooGreatValue, api.ErrLimit, 3}, {"\xff\xff\x02", api.ErrLimit, 3}, {"\x80\x80\x04", api.ErrLimit, 3}, {"\x80\x80\x80\x80\x10", api.ErrLimit, 5}, {mostBytes, api.ErrLimit, 10}, {nines + "\x01", api.ErrLimit, 10},
		{"\x80\x00", api.ErrMinimal, 1}, {"\x81\x00v", api.ErrMinimal, 1}, {"\xff\x80\x00", api.ErrMinimal, 2}, {"\x80\x80\x82\x00", api.ErrMinimal, 3}, {"\x81\x80\x82\x00", api.ErrMinimal, 3}, {nines + "\x00", api.ErrMinimal, 9}, {nines + "\x02", api.ErrOver, 9}, {nines + "\x80", api.ErrOver, 9}, {nines + "\xff\x01", api.ErrOver, 9},
	}
}

// wrongs are texts with each of the errors of reading: of each part, with what is behind it right and wrong.
func wrongs() []wrong {
	var l []wrong
	add := func(ahead string, of []wrong, behind ...string) {
		for _, w := range of {
			for _, s := range behind {
				l = append(l, wrong{ahead + w.s + s, w.e, len(ahead) + w.at})
			}
		}
	}
	add("", wrongClocks(), "", "\x00\x00\x00", "\x00\x00\x01v", "\x09", "\x00\x02", "\x00\x00"+tooGreat, "\x01\x00\x01")
	for _, k := range clocks() {
		add(k.s, wrongMetas(), "", "\x00\x00", "\x02", "\x00"+tooGreat, "\x01\x81\x00")
		for _, m := range metas() {
			for flag := 2; flag < 256; flag++ {
				behind := []string{"", "\x00", "\x01v", tooGreat, "\x80\x00"}[flag%5]
				add(k.s+m.s, []wrong{{string([]byte{byte(flag)}), api.ErrFlag, 1}}, behind)
			}
			add(k.s+m.s+"\x00", wrongValues(), "", "\x00")
			add(k.s+m.s+"\x01", wrongValues(), "", "v")
		}
	}
	return l
}

// shorts are texts that end too early: the place is that of the part that isn't there, of a number that of its missing byte.
func shorts() []wrong {
	return []wrong{
		{"", api.ErrShort, 0}, {"\x00", api.ErrShort, 1}, {"\x01\x02a", api.ErrShort, 2}, {"\x00\x01", api.ErrShort, 2}, {"\x00\x01\x01a", api.ErrShort, 4},
		{"\x00\x00", api.ErrShort, 2}, {"\x00\x00\x80", api.ErrShort, 3}, {"\x00\x00\x01", api.ErrShort, 3}, {"\x00\x00\x01\x02t", api.ErrShort, 4}, {"\x00\x00\x01\x01t", api.ErrShort, 5}, {"\x00\x00\x01\x01t\x02v", api.ErrShort, 6},
		{"\x00\x00\x00", api.ErrShort, 3}, {"\x00\x00\x01\x01t\x011", api.ErrShort, 7},
		{"\x00\x00\x00\x00", api.ErrShort, 4}, {"\x00\x00\x00\x01", api.ErrShort, 4}, {"\x00\x00\x00\x01\x80", api.ErrShort, 5}, {"\x00\x00\x00\x01" + great[:2], api.ErrShort, 6}, {"\x00\x00\x00\x01" + nines, api.ErrShort, 13},
		{"\x00\x00\x00\x00\x01", api.ErrShort, 5}, {"\x00\x00\x00\x01\x02v", api.ErrShort, 5}, {"\x00\x00\x00\x01\x80\x01" + long(127), api.ErrShort, 6}, {"\x00\x00\x00\x01" + great, api.ErrShort, 7}, {"\x00\x00\x00\x00" + great + long(32767), api.ErrShort, 7},
	}
}

// brief is what a message tells of a sibling.
func brief(x api.Sibling) string {
	s := fmt.Sprintf("%+v", x)
	if len(s) > 300 {
		s = s[:200] + " .. " + s[len(s)-80:]
	}
	return strconv.Quote(s)
}

// alike tells whether two siblings have the same parts, without asking the program.
func alike(a, b api.Sibling) bool {
	return slices.Equal(a.Clock.Ctx, b.Clock.Ctx) && a.Clock.Dotted == b.Clock.Dotted && a.Clock.Dot == b.Clock.Dot && slices.Equal(a.Meta, b.Meta) && a.Dead == b.Dead && a.Value == b.Value
}

// wantCursor holds a cursor against its place and its error.
func wantCursor(t *testing.T, s string, c *cursor.Cursor, at int, e api.Errno) {
	t.Helper()
	if c.At() != at || c.Err() != e {
		t.Fatalf("%.60q: at %d with the error %d, not at %d with %d", s, c.At(), c.Err(), at, e)
	}
}

// wantNone holds Take of a cursor with an error against there being nothing, and the cursor against what it was.
func wantNone(t *testing.T, s string, c *cursor.Cursor) {
	t.Helper()
	at, e := c.At(), c.Err()
	for range 2 {
		if x := sibling.Take(c); !alike(x, api.Sibling{}) {
			t.Fatalf("%.60q with the error %d: %s", s, e, brief(x))
		}
		wantCursor(t, s, c, at, e)
	}
}

// wantTaken holds Take of a text at a place against a sibling, the place behind it, and an error.
func wantTaken(t *testing.T, s string, from int, want api.Sibling, at int, e api.Errno) {
	t.Helper()
	c := cursor.New(s)
	c.Bytes(from)
	if x := sibling.Take(c); !alike(x, want) {
		t.Fatalf("%.60q from %d: %s, not %s", s, from, brief(x), brief(want))
	}
	wantCursor(t, s, c, at, e)
	if e != api.OK {
		wantNone(t, s, c)
	}
}

// wantPen holds a pen against its text (empty beside an error), how much was written, and its error.
func wantPen(t *testing.T, p *pen.Pen, text string, n int, e api.Errno) {
	t.Helper()
	if s, end := p.End(); s != text || end != e || p.Err() != e || p.Len() != n {
		t.Fatalf("the pen has %.60q, %d, %d bytes, not %.60q, %d, %d bytes", s, end, p.Len(), text, e, n)
	}
}

// wantChecked holds Check against an error.
func wantChecked(t *testing.T, x api.Sibling, e api.Errno) {
	t.Helper()
	if got := sibling.Check(x); got != e {
		t.Fatalf("%s: %d, not %d", brief(x), got, e)
	}
}

// wantEncoded holds Encode against a text and an error.
func wantEncoded(t *testing.T, x api.Sibling, want string, e api.Errno) {
	t.Helper()
	if s, got := sibling.Encode(x); s != want || got != e {
		t.Fatalf("of %s: %.60q (%d bytes), error %d; not %.60q (%d bytes), error %d", brief(x), s, len(s), got, want, len(want), e)
	}
}

// wantDecoded holds Decode against a sibling and an error.
func wantDecoded(t *testing.T, s string, want api.Sibling, e api.Errno) {
	t.Helper()
	if x, got := sibling.Decode(s); !alike(x, want) || got != e {
		t.Fatalf("of %.60q (%d bytes): %s, error %d; not %s, error %d", s, len(s), brief(x), got, brief(want), e)
	}
}

// wantSame holds Same against whether two siblings are, asked both ways.
func wantSame(t *testing.T, a, b api.Sibling, want bool) {
	t.Helper()
	if sibling.Same(a, b) != want || sibling.Same(b, a) != want {
		t.Fatalf("%s and %s: %t, %t, not %t", brief(a), brief(b), sibling.Same(a, b), sibling.Same(b, a), want)
	}
}

// P15.1: Check

func TestCheck(t *testing.T) {
	for _, r := range rights() {
		wantChecked(t, r.x, api.OK)
	}
}

func TestCheckOfEachError(t *testing.T) {
	for _, f := range slices.Concat(faults(), badClocks(), badMetas()) {
		wantChecked(t, f.x, f.e)
	}
}

// TestCheckTellsTheFirstOfTwo lists by hand which part is told.
func TestCheckTellsTheFirstOfTwo(t *testing.T) {
	for _, f := range []fault{
		{sib("a1 +a1", "t1 t2", false, "v"), api.ErrDot}, {sib("a1 +a1", "t1", false, tooGreatValue), api.ErrDot}, {sib("a0", "t s", true, tooGreatValue), api.ErrZero}, {sib("b1 a1", "", false, tooGreatValue), api.ErrOrder}, {api.Sibling{Clock: stray(nil, "a", 1), Meta: many(9, ""), Value: tooGreatValue}, api.ErrArg}, {api.Sibling{Clock: bare(entries(65)), Meta: prs("t s")}, api.ErrLimit}, {api.Sibling{Clock: dot(nil, "", 1), Meta: many(9, "")}, api.ErrEmpty},
		{sib("a1 +a2", "t1 t2", true, tooGreatValue), api.ErrOrder}, {api.Sibling{Meta: make([]api.Pair, 1), Value: tooGreatValue}, api.ErrEmpty}, {api.Sibling{Meta: make([]api.Pair, 9), Value: "v"}, api.ErrLimit},
		{sib("a1 +a2", "t1 u2", true, tooGreatValue), api.ErrLimit},
	} {
		wantChecked(t, f.x, f.e)
	}
}

func TestCheckOfValuesAtTheEdge(t *testing.T) {
	for n, e := range map[int]api.Errno{0: api.OK, 1: api.OK, 32767: api.OK, 32768: api.OK, 32769: api.ErrLimit, 32770: api.ErrLimit, 65536: api.ErrLimit, 1 << 24: api.ErrLimit} {
		for _, dead := range []bool{false, true} {
			wantChecked(t, sib("a1 +b1", "t1", dead, long(n)), e)
			wantChecked(t, sib("", "", dead, long(n)), e)
		}
	}
}

func TestCheckOfGreatLists(t *testing.T) {
	wantChecked(t, api.Sibling{Clock: bare(make([]api.Entry, 1<<20))}, api.ErrLimit)
	wantChecked(t, api.Sibling{Meta: make([]api.Pair, 1<<20)}, api.ErrLimit)
	wantChecked(t, api.Sibling{Clock: clk("a0"), Meta: make([]api.Pair, 1<<20), Value: long(1 << 20)}, api.ErrZero)
}

// P15.1: Take

func TestTakeAtEachPlaceOfAText(t *testing.T) {
	for _, r := range slices.Concat(few(), mediums(), larges()) {
		for _, ahead := range []string{"", "a", "\x00\x00", "\x01\x01z\x09\x00", "\xff\x80"} {
			for _, behind := range []string{"", "\x00", "\x01", "\x00\x00\x00\x00\x00", "\xff", "\x80\x00"} {
				wantTaken(t, ahead+r.s+behind, len(ahead), r.x, len(ahead)+len(r.s), api.OK)
			}
		}
	}
	for _, r := range smalls() {
		wantTaken(t, r.s, 0, r.x, len(r.s), api.OK)
		wantTaken(t, "a"+r.s+"b", 1, r.x, 1+len(r.s), api.OK)
	}
}

func TestTakeOneBehindTheOther(t *testing.T) {
	var text strings.Builder
	for _, r := range rights() {
		text.WriteString(r.s)
	}
	s := text.String()
	c := cursor.New(s)
	for _, r := range rights() {
		from := c.At()
		if x := sibling.Take(c); !alike(x, r.x) || c.Since(from) != r.s {
			t.Fatalf("%s of %.60q, not %s", brief(x), c.Since(from), brief(r.x))
		}
	}
	wantCursor(t, s, c, len(s), api.OK)
	if x := sibling.Take(c); !alike(x, api.Sibling{}) {
		t.Fatalf("at the end: %s", brief(x))
	}
	wantCursor(t, s, c, len(s), api.ErrShort)
	wantNone(t, s, c)
}

func TestTakeOfEachError(t *testing.T) {
	for _, w := range wrongs() {
		wantTaken(t, w.s, 0, api.Sibling{}, w.at, w.e)
		wantTaken(t, "\x00\x01"+w.s+"\x00\xff", 2, api.Sibling{}, 2+w.at, w.e)
	}
}

func TestTakeOfWhatEndsTooEarly(t *testing.T) {
	for _, w := range shorts() {
		for _, ahead := range []string{"", "a", "\x01\x01z\x01\x00", "\xff\xff"} {
			wantTaken(t, ahead+w.s, len(ahead), api.Sibling{}, len(ahead)+w.at, w.e)
		}
	}
}

// TestTakeOfEachBeginning cuts the bytes of right siblings: the place is the end of the part ahead of the one that isn't whole, but within a number the end of the text.
func TestTakeOfEachBeginning(t *testing.T) {
	for _, r := range smalls() {
		at := 0
		for _, p := range parts(r.x) {
			for n := range len(p.s) {
				place := at
				if p.number {
					place = at + n
				}
				wantTaken(t, r.s[:at+n], 0, api.Sibling{}, place, api.ErrShort)
			}
			at += len(p.s)
		}
		if at != len(r.s) {
			t.Fatalf("%s: %d bytes of parts, not %d", brief(r.x), at, len(r.s))
		}
	}
}

// TestTakeBehindASiblingThatIsWrong reads right siblings up to the first wrong one: nothing is read behind it.
func TestTakeBehindASiblingThatIsWrong(t *testing.T) {
	ahead := "\x01\x01a\x01\x00" + "\x01\x01t\x011" + "\x01" + "\x01v"
	for _, w := range wrongs() {
		s := ahead + "\x00\x00\x00\x00\x00" + w.s + "\x00\x00\x00\x00\x00"
		c := cursor.New(s)
		if x := sibling.Take(c); !alike(x, sib("a1", "t1", true, "v")) {
			t.Fatalf("%.60q: %s", s, brief(x))
		}
		if x := sibling.Take(c); !alike(x, api.Sibling{}) || c.Err() != api.OK {
			t.Fatalf("%.60q: %s, error %d", s, brief(x), c.Err())
		}
		sibling.Take(c)
		wantCursor(t, s, c, len(ahead)+5+w.at, w.e)
		wantNone(t, s, c)
	}
}

func TestTakeOfACursorWithAnError(t *testing.T) {
	for _, e := range anyErrors {
		for _, r := range few() {
			for _, at := range []int{0, len(r.s) / 2, len(r.s)} {
				s := r.s + "\x00\x00\x00\x00\x00"
				c := cursor.New(s)
				c.Bytes(at)
				c.Fail(e)
				wantCursor(t, s, c, at, e)
				wantNone(t, s, c)
			}
		}
	}
}

func TestTakeOfNil(t *testing.T) {
	var c *cursor.Cursor
	wantCursor(t, "nil", c, 0, api.ErrArg)
	wantNone(t, "nil", c)
}

// P15.1: Put

func TestPutOfOne(t *testing.T) {
	for _, r := range rights() {
		for _, room := range []int{len(r.s), len(r.s) + 1, math.MaxInt - 1} {
			p := pen.New(room + 1)
			p.Text("z")
			sibling.Put(p, r.x)
			wantPen(t, p, "z"+r.s, 1+len(r.s), api.OK)
		}
	}
}

func TestPutOfNone(t *testing.T) {
	for _, room := range []int{2, 3, math.MaxInt} {
		p := pen.New(room)
		p.Text("ab")
		sibling.Put(p)
		sibling.Put(p, nil...)
		sibling.Put(p, []api.Sibling{}...)
		wantPen(t, p, "ab", 2, api.OK)
	}
	p := pen.New(0)
	sibling.Put(p)
	wantPen(t, p, "", 0, api.OK)
}

func TestPutOfEmptyOnes(t *testing.T) {
	p := pen.New(10)
	sibling.Put(p, api.Sibling{})
	wantPen(t, p, "\x00\x00\x00\x00\x00", 5, api.OK)
	sibling.Put(p, api.Sibling{Clock: bare([]api.Entry{}), Meta: []api.Pair{}})
	wantPen(t, p, "\x00\x00\x00\x00\x00\x00\x00\x00\x00\x00", 10, api.OK)
	sibling.Put(p, api.Sibling{})
	wantPen(t, p, "", 10, api.ErrLimit)
}

func TestPutOfMany(t *testing.T) {
	var text strings.Builder
	var l []api.Sibling
	for _, r := range rights() {
		text.WriteString(r.s)
		l = append(l, r.x)
	}
	s := text.String()
	p := pen.New(len(s))
	sibling.Put(p, l...)
	wantPen(t, p, s, len(s), api.OK)
	p = pen.New(2 * len(s))
	for _, x := range l {
		sibling.Put(p, x, x)
	}
	if p.Len() != 2*len(s) || p.Err() != api.OK {
		t.Fatalf("%d bytes, error %d", p.Len(), p.Err())
	}
}

// TestPutOfManyThousand is of siblings that know nothing of one another: neither their clocks nor their values need rise, or be unlike.
func TestPutOfManyThousand(t *testing.T) {
	l := slices.Repeat([]api.Sibling{sib("b1 +a5", "u1", true, "w"), {}, sib("", "t", false, "v"), sib("", "t", false, "v")}, 20000)
	s := strings.Repeat("\x01\x01b\x01\x01\x01a\x05"+"\x01\x01u\x011"+"\x01"+"\x01w"+"\x00\x00\x00\x00\x00"+"\x00\x00\x01\x01t\x00\x00\x01v"+"\x00\x00\x01\x01t\x00\x00\x01v", 20000)
	p := pen.New(math.MaxInt)
	sibling.Put(p, l...)
	wantPen(t, p, s, len(s), api.OK)
}

// TestPutOfOneThatIsNotRight puts one that isn't right among right ones, at each place: those ahead of it are written, nothing of it, and nothing behind it.
func TestPutOfOneThatIsNotRight(t *testing.T) {
	around := []right{{sib("a1 +a2", "t1", true, "v"), "\x01\x01a\x01\x01\x01a\x02\x01\x01t\x011\x01\x01v"}, {api.Sibling{}, "\x00\x00\x00\x00\x00"}, {sib("", "", false, "ww"), "\x00\x00\x00\x00\x02ww"}}
	for _, f := range faults() {
		n := 1
		for at := range len(around) + 1 {
			var l []api.Sibling
			for _, r := range around {
				l = append(l, r.x)
			}
			p := pen.New(1 << 24)
			p.Text("z")
			sibling.Put(p, slices.Insert(l, at, f.x)...)
			wantPen(t, p, "", n, f.e)
			sibling.Put(p, api.Sibling{}, sib("a1", "t1", false, "v"))
			wantPen(t, p, "", n, f.e)
			if at < len(around) {
				n += len(around[at].s)
			}
		}
	}
}

// TestPutOfTwoThatAreNotRight tells the first one's error.
func TestPutOfTwoThatAreNotRight(t *testing.T) {
	for _, f := range someFaults() {
		for _, g := range someFaults() {
			p := pen.New(1 << 24)
			sibling.Put(p, sib("", "", false, "v"), f.x, g.x)
			wantPen(t, p, "", 6, f.e)
		}
	}
}

// TestPutOfOneThatIsNotRightWhereNothingFits tells Check's error, since none of its bytes is tried; but that of an earlier one that doesn't fit.
func TestPutOfOneThatIsNotRightWhereNothingFits(t *testing.T) {
	for _, f := range faults() {
		for _, room := range []int{math.MinInt, -1, 0} {
			p := pen.New(room)
			sibling.Put(p, f.x)
			wantPen(t, p, "", 0, f.e)
		}
		p := pen.New(6)
		sibling.Put(p, sib("", "", true, "v"), f.x)
		wantPen(t, p, "", 6, f.e)
		for room := range 6 { // each part of the first one has one byte
			p := pen.New(room)
			sibling.Put(p, sib("", "", true, "v"), f.x)
			wantPen(t, p, "", room, api.ErrLimit)
		}
	}
}

func TestPutOfAPenWithAnError(t *testing.T) {
	for _, e := range anyErrors {
		p := pen.New(1 << 24)
		p.Text("ab")
		p.Fail(e)
		sibling.Put(p)
		sibling.Put(p, api.Sibling{})
		for _, r := range few() {
			sibling.Put(p, r.x)
			wantPen(t, p, "", 2, e)
		}
		for _, f := range faults() {
			sibling.Put(p, f.x)
			sibling.Put(p, api.Sibling{}, f.x)
			wantPen(t, p, "", 2, e)
		}
	}
}

func TestPutOfNil(t *testing.T) {
	var p *pen.Pen
	sibling.Put(p)
	sibling.Put(p, api.Sibling{})
	for _, r := range rights() {
		sibling.Put(p, r.x, r.x)
	}
	for _, f := range faults() {
		sibling.Put(p, f.x)
	}
	wantPen(t, p, "", 0, api.ErrArg)
}

// TestPutAtEachLimit lists by hand how much is written at each limit: a sibling whose parts have 1 (count), 1 and 3 (length, actor), 2 (number), 1 (flag), 1 and 2 (length, actor), 1 (number), 1 (count), 1 and 2 (length, name), 1 and 3 (length, value), 1 (flag), 1 and 4 bytes (length, value), and one behind it.
func TestPutAtEachLimit(t *testing.T) {
	x := api.Sibling{Clock: dot([]api.Entry{{Actor: "abc", Count: 300}}, "bc", 7), Meta: []api.Pair{{Name: "tu", Value: "123"}}, Dead: true, Value: "vvvv"}
	s := "\x01\x03abc\xac\x02\x01\x02bc\x07" + "\x01\x02tu\x03123" + "\x01" + "\x04vvvv" + "\x00\x00\x00\x00\x00"
	for room, n := range []int{0, 1, 2, 2, 2, 5, 5, 7, 8, 9, 9, 11, 12, 13, 14, 14, 16, 17, 17, 17, 20, 21, 22, 22, 22, 22, 26, 27, 28, 29, 30} {
		p := pen.New(1 + room)
		p.Text("z")
		sibling.Put(p, x, api.Sibling{}, sib("a1", "", false, ""))
		wantPen(t, p, "", 1+n, api.ErrLimit)
		sibling.Put(p, api.Sibling{})
		wantPen(t, p, "", 1+n, api.ErrLimit)
	}
	p := pen.New(31)
	sibling.Put(p, x, api.Sibling{})
	wantPen(t, p, s, 31, api.OK)
}

// TestPutOfALongValueAtEachLimit is of a value whose length has 2 bytes, and of one whose length has 3: no part of them is written.
func TestPutOfALongValueAtEachLimit(t *testing.T) {
	for room, n := range map[int]int{3: 3, 4: 4, 5: 4, 6: 6, 7: 6, 132: 6, 133: 6} {
		p := pen.New(room)
		sibling.Put(p, sib("", "", true, long(128)))
		wantPen(t, p, "", n, api.ErrLimit)
	}
	for room, n := range map[int]int{4: 4, 5: 4, 6: 4, 7: 7, 8: 7, 32774: 7} {
		p := pen.New(room)
		sibling.Put(p, sib("", "", false, greatValue))
		wantPen(t, p, "", n, api.ErrLimit)
	}
}

// TestPutOfEachRightOneAtEachLimit cuts right siblings, so that the limit is within each of their parts.
func TestPutOfEachRightOneAtEachLimit(t *testing.T) {
	for _, r := range rights() {
		ends := []int{0} // where parts end
		for _, p := range parts(r.x) {
			ends = append(ends, ends[len(ends)-1]+len(p.s))
		}
		for _, room := range rooms(ends) {
			n := 0
			for _, end := range ends {
				if end <= room {
					n = end
				}
			}
			p := pen.New(room)
			sibling.Put(p, r.x)
			wantPen(t, p, "", n, api.ErrLimit)
		}
	}
}

// rooms are limits below the last end: all of them, in long texts those around ends.
func rooms(ends []int) []int {
	last := ends[len(ends)-1]
	var l []int
	for room := range last {
		if last < 300 || slices.ContainsFunc(ends, func(end int) bool { return end-2 < room && room < end+2 }) {
			l = append(l, room)
		}
	}
	return l
}

// P15.2: Encode

func TestEncode(t *testing.T) {
	for _, r := range append(smalls(), mediums()...) {
		wantEncoded(t, r.x, r.s, api.OK)
	}
}

func TestTheExample(t *testing.T) {
	wantEncoded(t, api.Sibling{Value: "v"}, "\x00\x00\x00\x00\x01v", api.OK)
	wantDecoded(t, "\x00\x00\x00\x00\x01v", api.Sibling{Value: "v"}, api.OK)
}

func TestEncodeOfWhatIsNotRight(t *testing.T) {
	for _, f := range faults() {
		wantEncoded(t, f.x, "", f.e)
	}
}

// TestEncodeOfWhatHasTooManyBytes comes behind Check's errors alone: what isn't right tells those, however many bytes it would have.
func TestEncodeOfWhatHasTooManyBytes(t *testing.T) {
	for _, r := range larges() {
		wantEncoded(t, r.x, "", api.ErrLimit)
		x := r.x
		x.Clock = clk("a1 +a1")
		wantEncoded(t, x, "", api.ErrDot)
		x = r.x
		x.Meta = append(slices.Clone(x.Meta[1:]), api.Pair{Name: "1", Value: greatValue})
		if len(x.Meta) > 1 {
			wantEncoded(t, x, "", api.ErrOrder)
		}
	}
}

func TestEncodeAroundTheLimit(t *testing.T) {
	for n := 65530; n <= 65536; n++ {
		r := sized(n)
		if len(r.s) != n {
			t.Fatalf("%d bytes, not %d", len(r.s), n)
		}
		wantEncoded(t, r.x, r.s, api.OK)
		wantDecoded(t, r.s, r.x, api.OK)
	}
	for n := 65537; n <= 65540; n++ {
		wantEncoded(t, sized(n).x, "", api.ErrLimit)
	}
}

// TestEncodeIsOneByteAwayFromTheLimit lets each part be the one that is a byte too much.
func TestEncodeIsOneByteAwayFromTheLimit(t *testing.T) {
	full := sized(65536).x
	for _, change := range []func(*api.Sibling){
		func(x *api.Sibling) { x.Clock = clk("+a1") },
		func(x *api.Sibling) { x.Clock = clk("a1") },
		func(x *api.Sibling) { x.Meta[0].Name += "t" },
		func(x *api.Sibling) { x.Meta[0].Value += "x" },
		func(x *api.Sibling) { x.Meta = append(x.Meta, api.Pair{Name: "u"}) },
	} {
		x := full
		x.Meta = slices.Clone(full.Meta)
		change(&x)
		wantChecked(t, x, api.OK)
		wantEncoded(t, x, "", api.ErrLimit)
	}
	dead := full
	dead.Dead = true
	if s, e := sibling.Encode(dead); len(s) != 65536 || e != api.OK {
		t.Fatalf("%d bytes, error %d", len(s), e)
	}
	x := sized(65535).x // its value can't grow, but another one's can
	x.Meta[0].Value, x.Value = x.Value, x.Meta[0].Value
	for _, e := range []api.Errno{api.OK, api.OK, api.ErrLimit} {
		if _, got := sibling.Encode(x); got != e {
			t.Fatalf("%s: error %d, not %d", brief(x), got, e)
		}
		x.Value += "x"
	}
}

// P15.2: Decode

func TestDecode(t *testing.T) {
	for _, r := range rights() {
		wantDecoded(t, r.s, r.x, api.OK)
	}
}

func TestDecodeOfEachError(t *testing.T) {
	for _, w := range append(wrongs(), shorts()...) {
		wantDecoded(t, w.s, api.Sibling{}, w.e)
	}
	for _, w := range wrongs() { // ErrTrail comes behind the errors of reading
		wantDecoded(t, w.s+"\x00", api.Sibling{}, w.e)
		wantDecoded(t, w.s+long(100), api.Sibling{}, w.e)
	}
}

func TestDecodeOfEachBeginning(t *testing.T) {
	for _, r := range smalls() {
		for n := range len(r.s) {
			wantDecoded(t, r.s[:n], api.Sibling{}, api.ErrShort)
		}
	}
	for _, r := range append(mediums(), larges()...) {
		for n := 0; n < len(r.s); n += 1 + n/7 {
			wantDecoded(t, r.s[:n], api.Sibling{}, api.ErrShort)
		}
		wantDecoded(t, r.s[:len(r.s)-1], api.Sibling{}, api.ErrShort)
	}
}

func TestDecodeWithOthersBehind(t *testing.T) {
	for _, r := range smalls() {
		for _, s := range []string{"\x00", "\x01", "\x80", "\xff", "\x00\x00\x00\x00\x00", r.s, long(100)} {
			wantDecoded(t, r.s+s, api.Sibling{}, api.ErrTrail)
		}
	}
	for _, r := range few() {
		for b := range 256 {
			wantDecoded(t, r.s+string([]byte{byte(b)}), api.Sibling{}, api.ErrTrail)
		}
	}
}

// TestDecodeOfLongTexts is of more than 65,536 bytes: those of a right sibling are read, since Encode alone has that limit.
func TestDecodeOfLongTexts(t *testing.T) {
	for _, r := range larges() {
		wantDecoded(t, r.s, r.x, api.OK)
		wantDecoded(t, r.s+"\x00", api.Sibling{}, api.ErrTrail)
		wantDecoded(t, r.s[:len(r.s)-1], api.Sibling{}, api.ErrShort)
		p := pen.New(len(r.s))
		x, _ := sibling.Decode(r.s)
		sibling.Put(p, x)
		wantPen(t, p, r.s, len(r.s), api.OK)
	}
	for _, r := range few() {
		wantDecoded(t, r.s+long(70000), api.Sibling{}, api.ErrTrail)
		wantDecoded(t, r.s+strings.Repeat("\x00", 65536), api.Sibling{}, api.ErrTrail)
	}
	for i, w := range wrongs() {
		if i%29 == 0 {
			wantDecoded(t, w.s+long(70000), api.Sibling{}, w.e)
		}
	}
	wantDecoded(t, "\x00\x00\x00\x00"+tooGreat+long(70000), api.Sibling{}, api.ErrLimit)
	wantDecoded(t, "\x00\x00\x08"+manyBytes(8, great+greatValue)+"\x02\x00", api.Sibling{}, api.ErrFlag)
	wantDecoded(t, "\x00\x00\x08"+manyBytes(8, great+greatValue)+"\x00\x81\x00v", api.Sibling{}, api.ErrMinimal)
	wantDecoded(t, strings.Repeat("\x00", 65537), api.Sibling{}, api.ErrTrail)
	wantDecoded(t, strings.Repeat("\xff", 65537), api.Sibling{}, api.ErrOver)
}

// P15.3: Same

// changes are changes of one part each, of sib("a1 b2 +b4", "t1 u2", true, "v").
func changes() []func(*api.Sibling) {
	return []func(*api.Sibling){
		func(x *api.Sibling) {},
		func(x *api.Sibling) { x.Clock.Ctx[0].Actor = "A" },
		func(x *api.Sibling) { x.Clock.Ctx[0].Count = 2 },
		func(x *api.Sibling) { x.Clock.Ctx[1].Actor = "c" },
		func(x *api.Sibling) { x.Clock.Ctx[1].Count = 1 },
		func(x *api.Sibling) { x.Clock.Ctx = vec("b2 a1") },
		func(x *api.Sibling) { x.Clock.Ctx = vec("a1") },
		func(x *api.Sibling) { x.Clock.Ctx = vec("a1 b2 c3") },
		func(x *api.Sibling) { x.Clock.Ctx = nil },
		func(x *api.Sibling) { x.Clock.Dotted = false },
		func(x *api.Sibling) { x.Clock.Dot.Actor = "c" },
		func(x *api.Sibling) { x.Clock.Dot.Count = 3 },
		func(x *api.Sibling) { x.Clock.Dot = api.Entry{} },
		func(x *api.Sibling) { x.Meta[0].Name = "s" },
		func(x *api.Sibling) { x.Meta[0].Value = "2" },
		func(x *api.Sibling) { x.Meta[1].Name = "v" },
		func(x *api.Sibling) { x.Meta[1].Value = "" },
		func(x *api.Sibling) { x.Meta = prs("u2 t1") },
		func(x *api.Sibling) { x.Meta = prs("t1") },
		func(x *api.Sibling) { x.Meta = prs("t1 u2 v3") },
		func(x *api.Sibling) { x.Meta = nil },
		func(x *api.Sibling) { x.Dead = false },
		func(x *api.Sibling) { x.Value = "w" },
		func(x *api.Sibling) { x.Value = "" },
		func(x *api.Sibling) { x.Value = "v\x00" },
	}
}

// changed is a sibling in new memory, one part of which is another one.
func changed(i int) api.Sibling {
	x := sib("a1 b2 +b4", "t1 u2", true, "v")
	changes()[i](&x)
	return x
}

func TestSameOfWhatDiffersInOnePart(t *testing.T) {
	for i := range changes() {
		for j := range changes() {
			wantSame(t, changed(i), changed(j), i == j)
		}
	}
}

func TestSameOfNilAndEmptyLists(t *testing.T) {
	for _, x := range []api.Sibling{{}, {Value: "v"}, {Dead: true}, {Clock: clk("+a1")}} {
		for _, v := range [][]api.Entry{nil, {}, make([]api.Entry, 0, 9), vec("a1")[:0]} {
			for _, l := range [][]api.Pair{nil, {}, make([]api.Pair, 0, 9), prs("t1")[:0]} {
				y := x
				y.Clock.Ctx, y.Meta = v, l
				wantSame(t, x, y, true)
				y.Clock.Ctx = make([]api.Entry, 1)
				wantSame(t, x, y, false)
				y.Clock.Ctx, y.Meta = v, make([]api.Pair, 1)
				wantSame(t, x, y, false)
			}
		}
	}
}

func TestSameOfRightOnes(t *testing.T) {
	all := few()
	for _, a := range all {
		for _, b := range all {
			wantSame(t, a.x, cloned(b.x), a.s == b.s)
		}
	}
	for _, r := range rights() {
		wantSame(t, r.x, cloned(r.x), true)
		y := r.x
		y.Dead = !y.Dead
		wantSame(t, r.x, y, false)
		y = r.x
		y.Value += "x"
		wantSame(t, r.x, y, false)
	}
}

func TestSameOfWhatIsNotRight(t *testing.T) {
	for _, f := range faults() {
		wantSame(t, f.x, cloned(f.x), true)
		wantSame(t, f.x, api.Sibling{}, false)
		y := cloned(f.x)
		y.Dead = !y.Dead
		wantSame(t, f.x, y, false)
	}
	for _, a := range someFaults() {
		for _, b := range someFaults() {
			wantSame(t, a.x, cloned(b.x), alike(a.x, b.x))
		}
	}
	wantSame(t, api.Sibling{Value: tooGreatValue}, api.Sibling{Value: greatValue + "y"}, false)
	wantSame(t, api.Sibling{Meta: many(100000, "v")}, api.Sibling{Meta: many(100000, "v")}, true)
	wantSame(t, api.Sibling{Meta: many(100000, "v")}, api.Sibling{Meta: many(100001, "v")}, false)
}

// TestSameIsOfPartsNotOfWhatIsKnown is of clocks that know the same, but are written otherwise.
func TestSameIsOfPartsNotOfWhatIsKnown(t *testing.T) {
	wantSame(t, sib("a1", "", false, "v"), sib("+a1", "", false, "v"), false)
	wantSame(t, sib("a1 +a2", "", false, "v"), sib("a2", "", false, "v"), false)
	wantSame(t, api.Sibling{Clock: stray(nil, "a", 1)}, sib("+a1", "", false, ""), false)
	wantSame(t, sib("", "", false, "v"), sib("", "", true, "v"), false)
	wantSame(t, sib("", "tv", false, ""), sib("", "t", false, "v"), false)
}

// P15.3: Copy

// cloned is a sibling in new memory, without asking the program.
func cloned(x api.Sibling) api.Sibling {
	x.Clock.Ctx = slices.Clone(x.Clock.Ctx)
	x.Meta = slices.Clone(x.Meta)
	return x
}

// inside is a sibling whose lists stand in the midst of longer ones, and one with these: what is behind them would be told, were it read or written.
func inside(x api.Sibling) (api.Sibling, api.Sibling) {
	whole := x
	whole.Clock.Ctx = append(slices.Clone(x.Clock.Ctx), vec("y8 z9")...)
	whole.Meta = append(slices.Clone(x.Meta), prs("y8 z9 zz")...)
	x.Clock.Ctx = whole.Clock.Ctx[:len(x.Clock.Ctx)]
	x.Meta = whole.Meta[:len(x.Meta)]
	return x, whole
}

// spoil writes over a sibling's lists, and over what lies behind them in their memory.
func spoil(x api.Sibling) {
	for i := range x.Clock.Ctx[:cap(x.Clock.Ctx)] {
		x.Clock.Ctx[:cap(x.Clock.Ctx)][i] = api.Entry{Actor: "spoiled"}
	}
	for i := range x.Meta[:cap(x.Meta)] {
		x.Meta[:cap(x.Meta)][i] = api.Pair{Name: "spoiled", Value: "too"}
	}
}

// anySiblings are siblings, right and not.
func anySiblings() []api.Sibling {
	var l []api.Sibling
	for _, r := range rights() {
		l = append(l, r.x)
	}
	for _, f := range append(faults(), someFaults()...) {
		l = append(l, f.x)
	}
	for i := range changes() {
		l = append(l, changed(i))
	}
	return append(l, api.Sibling{Clock: bare(entries(1000)), Meta: many(1000, "v")}, api.Sibling{Clock: stray(entries(65), "a", 1), Meta: make([]api.Pair, 9), Dead: true, Value: tooGreatValue})
}

func TestCopy(t *testing.T) {
	for _, x := range anySiblings() {
		y := sibling.Copy(x)
		if !alike(x, y) {
			t.Fatalf("%s is no copy of %s", brief(y), brief(x))
		}
		wantSame(t, x, y, true)
	}
}

func TestCopyOfNilAndEmptyLists(t *testing.T) {
	for _, v := range [][]api.Entry{nil, {}, make([]api.Entry, 0, 9), vec("a1 b2")[:0]} {
		for _, l := range [][]api.Pair{nil, {}, make([]api.Pair, 0, 9), prs("t1 u2")[:0]} {
			x := api.Sibling{Clock: dot(v, "a", 1), Meta: l, Dead: true, Value: "v"}
			y := sibling.Copy(x)
			if !alike(y, sib("+a1", "", true, "v")) {
				t.Fatalf("%s of %s", brief(y), brief(x))
			}
			_ = append(append(x.Clock.Ctx, vec("x7")...), vec("y8")...)
			_ = append(append(x.Meta, prs("x7")...), prs("y8")...)
			grown, more := append(y.Clock.Ctx, vec("y8")...), append(y.Meta, prs("y8")...)
			x.Clock.Ctx, x.Meta = append(x.Clock.Ctx, vec("z9")...), append(x.Meta, prs("z9")...)
			if !slices.Equal(grown, vec("y8")) || !slices.Equal(more, prs("y8")) || !alike(x, sib("z9 +a1", "z9", true, "v")) {
				t.Fatalf("%v, %v, %s", grown, more, brief(x))
			}
		}
	}
}

// TestCopyIsNewMemory writes over the one's lists, and over what lies behind them, and looks at the other one.
func TestCopyIsNewMemory(t *testing.T) {
	for _, x := range anySiblings() {
		one, whole := inside(x)
		was := cloned(whole)
		two, three := sibling.Copy(one), sibling.Copy(one)
		spoil(two)
		if !alike(whole, was) || !alike(three, x) {
			t.Fatalf("%s became %s; %s became %s", brief(was), brief(whole), brief(x), brief(three))
		}
		spoil(whole)
		if !alike(three, x) {
			t.Fatalf("%s became %s", brief(x), brief(three))
		}
	}
}

// TestCopyMayBeGrown grows the copy, and what was copied: neither is in the other one's way.
func TestCopyMayBeGrown(t *testing.T) {
	x, whole := inside(sib("a1", "t1", false, "v"))
	y := sibling.Copy(x)
	z := sibling.Copy(y)
	y.Clock.Ctx, y.Meta = append(y.Clock.Ctx, vec("p5")...), append(y.Meta, prs("p5")...)
	z.Clock.Ctx, z.Meta = append(z.Clock.Ctx, vec("q6")...), append(z.Meta, prs("q6")...)
	if !alike(whole, sib("a1 y8 z9", "t1 y8 z9 zz", false, "v")) {
		t.Fatalf("what lies behind: %s", brief(whole))
	}
	x.Clock.Ctx, x.Meta = append(x.Clock.Ctx, vec("r7")...), append(x.Meta, prs("r7")...)
	if !alike(x, sib("a1 r7", "t1 r7", false, "v")) || !alike(y, sib("a1 p5", "t1 p5", false, "v")) || !alike(z, sib("a1 q6", "t1 q6", false, "v")) {
		t.Fatalf("%s, %s, %s", brief(x), brief(y), brief(z))
	}
}

// P15.3: texts

func TestEachRightOneHasATextOfItsOwn(t *testing.T) {
	seen := map[string]api.Sibling{}
	for _, r := range append(smalls(), mediums()...) {
		if x, ok := seen[r.s]; ok && !alike(x, r.x) {
			t.Fatalf("%s and %s have the same bytes", brief(x), brief(r.x))
		}
		seen[r.s] = r.x
		s, _ := sibling.Encode(r.x)
		x, e := sibling.Decode(s)
		if e != api.OK || !alike(x, r.x) || sibling.Check(x) != api.OK {
			t.Fatalf("%s became %s, error %d", brief(r.x), brief(x), e)
		}
		wantEncoded(t, x, s, api.OK)
	}
}

// TestNoneBeginsWithAnother: no right sibling's bytes are a beginning of another one's. In their order, one that another one begins with stands right ahead of such a one.
func TestNoneBeginsWithAnother(t *testing.T) {
	var l []string
	for _, r := range append(smalls(), mediums()...) {
		s, _ := sibling.Encode(r.x)
		l = append(l, s)
	}
	l = slices.Compact(slices.Sorted(slices.Values(l)))
	for i := 1; i < len(l); i++ {
		if strings.HasPrefix(l[i], l[i-1]) {
			t.Fatalf("%.60q begins with %.60q", l[i], l[i-1])
		}
	}
}

// otherBytes are the bytes into which one of a text is turned: all of them, in long texts those at edges and those beside it.
func otherBytes(b byte, long bool) []byte {
	if long {
		return []byte{0, 1, 2, 8, 9, 32, 33, 65, 127, 128, 129, 255, b - 1, b + 1, b ^ 128}
	}
	var l []byte
	for i := range 256 {
		l = append(l, byte(i))
	}
	return l
}

// TestOneByteThatIsAnother turns each byte of small siblings' texts into others: what is read then is another sibling, whose bytes those are. Of those with as many as 64 actors only some are turned about as a whole.
func TestOneByteThatIsAnother(t *testing.T) {
	for i, r := range few() {
		from := 0
		if len(r.s) > 300 && i%8 > 0 {
			from = len(r.s) - 150
		}
		for at := from; at < len(r.s); at++ {
			for _, b := range otherBytes(r.s[at], len(r.s) > 60) {
				wantUnlike(t, r, at, b)
			}
		}
	}
}

// TestOneByteOfALongTextThatIsAnother turns bytes ahead of long values and at their ends.
func TestOneByteOfALongTextThatIsAnother(t *testing.T) {
	for _, r := range append(mediums(), larges()...) {
		for _, at := range append(flagEdges(r), 0, 1, 2, 3, 4, 5, 6, 7, 8, 9, 10, len(r.s)-1) {
			for _, b := range []byte{0, 1, 2, 127, 128, 255, r.s[at] + 1} {
				wantUnlike(t, r, at, b)
			}
		}
	}
}

// flagEdges are places around the flag of a sibling, which stands ahead of the value's length.
func flagEdges(r right) []int {
	length := len(r.s) - len(r.x.Value) - len(plainNumber(uint64(len(r.x.Value))))
	var l []int
	for at := length - 2; at < min(length+4, len(r.s)); at++ {
		l = append(l, at)
	}
	return l
}

// wantUnlike holds a text in which one byte is another one against the plain reading, and against the sibling whose bytes it had.
func wantUnlike(t *testing.T, r right, at int, b byte) {
	t.Helper()
	s := r.s[:at] + string([]byte{b}) + r.s[at+1:]
	wantPlain(t, s)
	if x, e := sibling.Decode(s); e == api.OK && s != r.s && alike(x, r.x) {
		t.Fatalf("%.60q and %.60q are both %s", s, r.s, brief(x))
	}
}

// R4

func TestWhatIsHandedInStaysAsItWas(t *testing.T) {
	for _, x := range anySiblings() {
		one, whole := inside(x)
		was := cloned(whole)
		two, whole2 := inside(sib("b4 c1 +b6", "t1", true, "w"))
		was2 := cloned(whole2)
		l := []api.Sibling{two, one, two, sib("y1", "", false, ""), sib("y2", "", false, "")}
		text, e := sibling.Encode(one)
		p := pen.New(1 << 24)
		sibling.Check(one)
		sibling.Put(p, l[:3]...)
		sibling.Same(one, two)
		sibling.Same(two, one)
		sibling.Copy(one)
		if !alike(whole, was) || !alike(whole2, was2) {
			t.Fatalf("%s became %s; %s became %s", brief(was), brief(whole), brief(was2), brief(whole2))
		}
		for i, y := range []api.Sibling{two, one, two, sib("y1", "", false, ""), sib("y2", "", false, "")} {
			if !alike(l[i], y) {
				t.Fatalf("at %d: %s became %s", i, brief(y), brief(l[i]))
			}
		}
		wantEncoded(t, one, text, e)
		end, _ := p.End()
		spoil(whole)
		spoil(whole2)
		if again, _ := p.End(); again != end {
			t.Fatalf("the pen had %.60q, and has %.60q", end, again)
		}
	}
}

// TestWhatLiesBehindIsNotRead is of a row of siblings with one behind its length that isn't right, and of lists with what isn't right behind them.
func TestWhatLiesBehindIsNotRead(t *testing.T) {
	l := []api.Sibling{sib("", "", false, "v"), sib("", "", true, "w"), sib("a0", "", false, "")}
	p := pen.New(100)
	sibling.Put(p, l[:2]...)
	wantPen(t, p, "\x00\x00\x00\x00\x01v\x00\x00\x00\x01\x01w", 12, api.OK)
	x := api.Sibling{Clock: bare(vec("b1 a0")[:1]), Meta: prs("u1 t2")[:1], Value: "v"}
	wantChecked(t, x, api.OK)
	wantEncoded(t, x, "\x01\x01b\x01\x00\x01\x01u\x011\x00\x01v", api.OK)
	wantSame(t, x, sib("b1", "u1", false, "v"), true)
	wantSame(t, x, sib("b1 a0", "u1 t2", false, "v"), false)
}

func TestWhatIsReadIsNew(t *testing.T) {
	for _, r := range append(few(), mediums()...) {
		c := cursor.New(r.s + r.s + r.s)
		a, b := sibling.Take(c), sibling.Take(c)
		d, _ := sibling.Decode(r.s)
		spoil(a)
		spoil(d)
		again, _ := sibling.Decode(r.s)
		if !alike(b, r.x) || !alike(again, r.x) || !alike(sibling.Take(c), r.x) {
			t.Fatalf("of %.60q: %s, %s", r.s, brief(b), brief(again))
		}
		wantCursor(t, r.s, c, 3*len(r.s), api.OK)
	}
}

// TestTheSameAnswerEachTime asks the same many times.
func TestTheSameAnswerEachTime(t *testing.T) {
	r := sized(65536)
	for range 100 {
		wantEncoded(t, r.x, r.s, api.OK)
		wantDecoded(t, r.s, r.x, api.OK)
		wantEncoded(t, sized(65537).x, "", api.ErrLimit)
		wantDecoded(t, "\x00\x00\x00\x02\x00", api.Sibling{}, api.ErrFlag)
		wantChecked(t, sib("a1 +a1", "t s", false, ""), api.ErrDot)
		wantSame(t, changed(0), changed(3), false)
	}
}
