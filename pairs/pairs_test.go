package pairs_test

import (
	"math"
	"slices"
	"strconv"
	"strings"
	"testing"

	"spence/api"
	"spence/cursor"
	"spence/pairs"
	"spence/pen"
)

// The bytes of numbers at the edges, and of what is none.
const (
	mostBytes = "\xff\xff\xff\xff\xff\xff\xff\xff\xff\x01" // of the greatest one
	nines     = "\x80\x80\x80\x80\x80\x80\x80\x80\x80"     // the tenth byte ends it, or is too great
	great     = "\x80\x80\x02"                             // of 32,768
	tooGreat  = "\x81\x80\x02"                             // of 32,769
)

// anyErrors are errors that a cursor, or a pen, may have, those that aren't named too.
var anyErrors = []api.Errno{api.ErrArg, api.ErrShort, api.ErrLimit, api.ErrOrder, api.ErrTrail, api.ErrForm, -1, 19, math.MaxInt, math.MinInt}

// prs are pairs whose names have one byte, with their values: "a1 b22 c".
func prs(s string) []api.Pair {
	var l []api.Pair
	for _, w := range strings.Fields(s) {
		l = append(l, api.Pair{Name: w[:1], Value: w[1:]})
	}
	return l
}

// many are n pairs, right ones up to 8, all with names of four digits, so that they rise; each value is v.
func many(n int) []api.Pair {
	var l []api.Pair
	for i := range n {
		l = append(l, api.Pair{Name: strconv.Itoa(1000 + i), Value: "v"})
	}
	return l
}

// manyBytes are the pairs' bytes of many, 7 of each.
func manyBytes(n int) string {
	s := ""
	for i := range n {
		s += "\x04" + strconv.Itoa(1000+i) + "\x01v"
	}
	return s
}

// long is a text of n bytes.
func long(n int) string {
	return strings.Repeat("x", n)
}

// The values at the greatest length, and beyond it.
var (
	greatValue    = long(32768)
	tooGreatValue = long(32769)
)

// greatest are the pairs with the most bytes.
func greatest() []api.Pair {
	l := many(8)
	for i := range l {
		l[i] = api.Pair{Name: l[i].Name + long(28), Value: greatValue}
	}
	return l
}

// greatestBytes are the bytes of greatest.
func greatestBytes() string {
	s := "\x08"
	for i := range 8 {
		s += "\x20" + strconv.Itoa(1000+i) + long(28) + great + greatValue
	}
	return s
}

// of are pairs of some names, each with an empty value.
func of(names ...string) []api.Pair {
	var l []api.Pair
	for _, s := range names {
		l = append(l, api.Pair{Name: s})
	}
	return l
}

// a is the pair a of a value, alone.
func a(value string) []api.Pair {
	return []api.Pair{{Name: "a", Value: value}}
}

// spoilt are pairs of which the one at a place is another one.
func spoilt(l []api.Pair, at int, x api.Pair) []api.Pair {
	l = slices.Clone(l)
	l[at] = x
	return l
}

// right are right pairs, and their bytes.
type right struct {
	l []api.Pair
	s string
}

// rights are right pairs, at all edges.
func rights() []right {
	return []right{
		{nil, "\x00"}, {[]api.Pair{}, "\x00"},
		{prs("a"), "\x01\x01a\x00"}, {prs("a1"), "\x01\x01a\x011"}, {prs("b1"), "\x01\x01b\x011"}, {prs("a1 b2"), "\x02\x01a\x011\x01b\x012"}, {prs("a b"), "\x02\x01a\x00\x01b\x00"}, {prs("a123 b c99"), "\x03\x01a\x03123\x01b\x00\x01c\x0299"}, {prs("a b2"), "\x02\x01a\x00\x01b\x012"}, {prs("b c"), "\x02\x01b\x00\x01c\x00"},
		// values that are alike, that fall, and that are names
		{prs("a1 b1"), "\x02\x01a\x011\x01b\x011"}, {prs("a2 b1"), "\x02\x01a\x012\x01b\x011"}, {prs("ab ba"), "\x02\x01a\x01b\x01b\x01a"}, {prs("aa"), "\x01\x01a\x01a"},
		// how many
		{many(2), "\x02" + manyBytes(2)}, {many(7), "\x07" + manyBytes(7)}, {many(8), "\x08" + manyBytes(8)}, {greatest(), greatestBytes()},
		// how long names are
		{of(long(2)), "\x01\x02xx\x00"}, {of(long(31)), "\x01\x1f" + long(31) + "\x00"}, {of(long(32)), "\x01\x20" + long(32) + "\x00"}, {of(long(31), long(32)), "\x02\x1f" + long(31) + "\x00\x20" + long(32) + "\x00"}, {[]api.Pair{{Name: long(32), Value: "12"}}, "\x01\x20" + long(32) + "\x0212"},
		// how long values are
		{a("12"), "\x01\x01a\x0212"}, {a(long(32)), "\x01\x01a\x20" + long(32)}, {a(long(33)), "\x01\x01a\x21" + long(33)}, {a(long(127)), "\x01\x01a\x7f" + long(127)}, {a(long(128)), "\x01\x01a\x80\x01" + long(128)}, {a(long(300)), "\x01\x01a\xac\x02" + long(300)}, {a(long(16383)), "\x01\x01a\xff\x7f" + long(16383)}, {a(long(16384)), "\x01\x01a\x80\x80\x01" + long(16384)}, {a(long(32767)), "\x01\x01a\xff\xff\x01" + long(32767)}, {a(greatValue), "\x01\x01a" + great + greatValue}, {append(a(greatValue), prs("b1")...), "\x02\x01a" + great + greatValue + "\x01b\x011"},
		// names that begin with others
		{of("a", "aa", "aaa"), "\x03\x01a\x00\x02aa\x00\x03aaa\x00"}, {of("a", "a\x00", "a\x00\x00", "a\x01"), "\x04\x01a\x00\x02a\x00\x00\x03a\x00\x00\x00\x02a\x01\x00"}, {of("a", "ab", "b"), "\x03\x01a\x00\x02ab\x00\x01b\x00"}, {of("ab", "b"), "\x02\x02ab\x00\x01b\x00"},
		// any bytes
		{of("\x00"), "\x01\x01\x00\x00"}, {of("\x00", "\x00\x00"), "\x02\x01\x00\x00\x02\x00\x00\x00"}, {of("\x7f", "\x80", "\xff", "\xff\xff"), "\x04\x01\x7f\x00\x01\x80\x00\x01\xff\x00\x02\xff\xff\x00"}, {of("a", "\xc3\xa4"), "\x02\x01a\x00\x02\xc3\xa4\x00"}, {of("A", "a"), "\x02\x01A\x00\x01a\x00"}, {of(strings.Repeat("\xff", 32)), "\x01\x20" + strings.Repeat("\xff", 32) + "\x00"},
		{a("\x00"), "\x01\x01a\x01\x00"}, {a("\xff\x80"), "\x01\x01a\x02\xff\x80"}, {a("\x01b\x00"), "\x01\x01a\x03\x01b\x00"}, {of("\x01", "\x02\x01"), "\x02\x01\x01\x00\x02\x02\x01\x00"},
	}
}

// fault is a list that isn't right, and why.
type fault struct {
	l []api.Pair
	e api.Errno
}

// faults are lists with each of Check's errors.
func faults() []fault {
	big, empty := api.Pair{Name: "z", Value: tooGreatValue}, api.Pair{Value: "1"}
	return []fault{
		// too many
		{many(9), api.ErrLimit}, {many(10), api.ErrLimit}, {many(200), api.ErrLimit}, {make([]api.Pair, 9), api.ErrLimit}, {slices.Repeat(prs("a1"), 9), api.ErrLimit}, {spoilt(many(9), 0, api.Pair{}), api.ErrLimit}, {spoilt(many(9), 8, big), api.ErrLimit},
		// a name that is too long
		{of(long(33)), api.ErrLimit}, {of(long(34)), api.ErrLimit}, {of(long(1000)), api.ErrLimit}, {of("a", long(33)), api.ErrLimit}, {of(long(33), "y"), api.ErrLimit}, {of(strings.Repeat("\x00", 33)), api.ErrLimit}, {spoilt(many(8), 7, of(long(33))[0]), api.ErrLimit},
		// one that is empty
		{of(""), api.ErrEmpty}, {[]api.Pair{empty}, api.ErrEmpty}, {of("", "a"), api.ErrEmpty}, {of("a", ""), api.ErrEmpty}, {of("", ""), api.ErrEmpty}, {make([]api.Pair, 8), api.ErrEmpty}, {spoilt(many(8), 7, empty), api.ErrEmpty},
		// names that don't rise
		{of("a", "a"), api.ErrOrder}, {of("b", "a"), api.ErrOrder}, {prs("a1 a2"), api.ErrOrder}, {prs("a1 a1"), api.ErrOrder}, {of("ab", "a"), api.ErrOrder}, {of("a", "c", "b"), api.ErrOrder}, {of("a", "b", "a"), api.ErrOrder}, {of("a", "b", "b"), api.ErrOrder}, {of("\x80", "\x7f"), api.ErrOrder}, {of("\xff", "a"), api.ErrOrder}, {of("b", "aa"), api.ErrOrder}, {of("a\x00", "a"), api.ErrOrder}, {of(long(32), long(31)), api.ErrOrder}, {spoilt(many(8), 7, many(1)[0]), api.ErrOrder},
		// a value that is too long
		{a(tooGreatValue), api.ErrLimit}, {a(long(65536)), api.ErrLimit}, {append(prs("b1"), big), api.ErrLimit}, {append(a(tooGreatValue), prs("b")...), api.ErrLimit}, {spoilt(many(8), 7, big), api.ErrLimit},
		// two errors of one pair
		{[]api.Pair{{Name: long(33), Value: tooGreatValue}}, api.ErrLimit}, {of("y", long(33)), api.ErrLimit}, {[]api.Pair{{Value: tooGreatValue}}, api.ErrEmpty}, {append(prs("b"), api.Pair{Value: tooGreatValue}), api.ErrEmpty}, {append(prs("b"), a(tooGreatValue)...), api.ErrOrder}, {append(prs("a"), a(tooGreatValue)...), api.ErrOrder},
		// two errors of two pairs
		{of("b", "a", ""), api.ErrOrder}, {of("", long(33)), api.ErrEmpty}, {of("", "b", "a"), api.ErrEmpty}, {of(long(33), ""), api.ErrLimit}, {of(long(33), "a"), api.ErrLimit}, {append(a(tooGreatValue), of("")...), api.ErrLimit}, {append(a(tooGreatValue), of("a")...), api.ErrLimit}, {append(of(""), big), api.ErrEmpty}, {append(of("b", "a"), big), api.ErrOrder}, {append(of("b", "a"), of(long(33))...), api.ErrOrder},
	}
}

// wrong is a text that begins with no pairs: the error, and the place behind it.
type wrong struct {
	s  string
	e  api.Errno
	at int
}

// wrongs are texts with each of the errors of reading, but for bytes that end too early.
func wrongs() []wrong {
	return []wrong{
		// the count
		{"\x09", api.ErrLimit, 1}, {"\x09" + manyBytes(9), api.ErrLimit, 1}, {"\x0a", api.ErrLimit, 1}, {"\x7f", api.ErrLimit, 1}, {"\x80\x01", api.ErrLimit, 2}, {mostBytes, api.ErrLimit, 10}, {nines + "\x01", api.ErrLimit, 10}, {"\x80\x80\x80\x80\x10", api.ErrLimit, 5}, {"\x81\x80\x80\x80\x10\x01a\x00", api.ErrLimit, 5},
		{"\x80\x00", api.ErrMinimal, 1}, {"\x81\x00\x01a\x00", api.ErrMinimal, 1}, {"\x88\x80\x00", api.ErrMinimal, 2}, {"\x89\x00", api.ErrMinimal, 1}, {nines + "\x00", api.ErrMinimal, 9}, {nines + "\x02", api.ErrOver, 9}, {nines + "\x80", api.ErrOver, 9}, {nines + "\xff", api.ErrOver, 9}, {mostBytes[:9] + "\x7f", api.ErrOver, 9},
		// a name's length
		{"\x01\x21", api.ErrLimit, 2}, {"\x01\x21" + long(33) + "\x00", api.ErrLimit, 2}, {"\x01\x7fa", api.ErrLimit, 2}, {"\x01\x80\x01", api.ErrLimit, 3}, {"\x01" + great + greatValue, api.ErrLimit, 4}, {"\x01" + mostBytes, api.ErrLimit, 11}, {"\x01" + nines + "\x01", api.ErrLimit, 11}, {"\x02\x01a\x00\x21", api.ErrLimit, 5},
		{"\x01\x80\x00", api.ErrMinimal, 2}, {"\x01\x81\x00a\x00", api.ErrMinimal, 2}, {"\x01\xa1\x00", api.ErrMinimal, 2}, {"\x02\x01a\x00\x81\x00b\x00", api.ErrMinimal, 5}, {"\x01" + nines + "\x02", api.ErrOver, 10}, {"\x02\x01a\x00" + nines + "\x7f", api.ErrOver, 13},
		// a name that is empty
		{"\x01\x00", api.ErrEmpty, 2}, {"\x01\x00\x00", api.ErrEmpty, 2}, {"\x01\x00\x01v", api.ErrEmpty, 2}, {"\x02\x01a\x00\x00", api.ErrEmpty, 5}, {"\x02\x01a\x011\x00\x011", api.ErrEmpty, 6}, {"\x08\x00", api.ErrEmpty, 2}, {"\x08" + manyBytes(7) + "\x00", api.ErrEmpty, 51},
		// names that don't rise
		{"\x02\x01a\x00\x01a", api.ErrOrder, 6}, {"\x02\x01a\x011\x01a\x012", api.ErrOrder, 7}, {"\x02\x01b\x00\x01a", api.ErrOrder, 6}, {"\x02\x02ab\x00\x01a\x00", api.ErrOrder, 7}, {"\x02\x01b\x00\x02aa\x00", api.ErrOrder, 7}, {"\x03\x01a\x00\x01c\x00\x01b\x00", api.ErrOrder, 9}, {"\x03\x01a\x00\x01b\x00\x01a\x00", api.ErrOrder, 9}, {"\x02\x01\x80\x00\x01\x7f\x00", api.ErrOrder, 6}, {"\x02\x01\xff\x00\x01a\x00", api.ErrOrder, 6}, {"\x02\x02a\x00\x00\x01a\x00", api.ErrOrder, 7}, {"\x08" + manyBytes(7) + "\x04" + "1006", api.ErrOrder, 55}, {"\x02\x20" + long(32) + "\x00\x1f" + long(31) + "\x00", api.ErrOrder, 67}, {"\x02\x01b\x80\x01" + long(128) + "\x01a", api.ErrOrder, 135},
		// a value's length
		{"\x01\x01a" + tooGreat, api.ErrLimit, 6}, {"\x01\x01a" + tooGreat + tooGreatValue, api.ErrLimit, 6}, {"\x01\x01a\x80\x80\x04", api.ErrLimit, 6}, {"\x01\x01a" + mostBytes, api.ErrLimit, 13}, {"\x01\x01a\x80\x80\x80\x80\x10", api.ErrLimit, 8}, {"\x02\x01a\x011\x01b" + tooGreat, api.ErrLimit, 10}, {"\x08" + manyBytes(7) + "\x01z" + tooGreat, api.ErrLimit, 55},
		{"\x01\x01a\x80\x00", api.ErrMinimal, 4}, {"\x01\x01a\x81\x001", api.ErrMinimal, 4}, {"\x01\x01a\x80\x80\x00", api.ErrMinimal, 5}, {"\x01\x01a\x80\x80\x82\x00", api.ErrMinimal, 6}, {"\x01\x01a\x81\x80\x82\x00", api.ErrMinimal, 6}, {"\x01\x01a" + nines + "\x00", api.ErrMinimal, 12}, {"\x01\x01a" + nines + "\x02", api.ErrOver, 12}, {"\x02\x01a\x00\x01b\x81\x00", api.ErrMinimal, 7},
		// two errors: the first from the left
		{"\x09\x00", api.ErrLimit, 1}, {"\x09\x21", api.ErrLimit, 1}, {"\x81\x00\x00", api.ErrMinimal, 1}, {"\x01\x21\x80\x00", api.ErrLimit, 2}, {"\x01\x00\x80\x00", api.ErrEmpty, 2}, {"\x01\x00" + tooGreat, api.ErrEmpty, 2}, {"\x02\x01b\x00\x00\x80\x00", api.ErrEmpty, 5}, {"\x02\x01b\x00\x01a\x80\x00", api.ErrOrder, 6}, {"\x02\x01b\x00\x01a" + tooGreat, api.ErrOrder, 6}, {"\x02\x01b\x00\x01b" + tooGreat, api.ErrOrder, 6}, {"\x02\x01b\x00\x21" + long(33) + tooGreat, api.ErrLimit, 5}, {"\x02\x01b" + tooGreat + "\x01a\x00", api.ErrLimit, 6}, {"\x02\x01b\x80\x00\x01a\x00", api.ErrMinimal, 4}, {"\x03\x01b\x00\x01a\x00\x00", api.ErrOrder, 6}, {"\x03\x01b\x00\x00\x00\x01a", api.ErrEmpty, 5},
	}
}

// shorts are texts that end too early: the place is that of the part that isn't there, of a number that of its missing byte.
func shorts() []wrong {
	return []wrong{
		{"", api.ErrShort, 0}, {"\x80", api.ErrShort, 1}, {"\xff\xff\xff", api.ErrShort, 3}, {nines, api.ErrShort, 9},
		{"\x01", api.ErrShort, 1}, {"\x08", api.ErrShort, 1}, {"\x01\x80", api.ErrShort, 2}, {"\x01" + nines, api.ErrShort, 10},
		{"\x01\x01", api.ErrShort, 2}, {"\x01\x02a", api.ErrShort, 2}, {"\x01\x20" + long(31), api.ErrShort, 2}, {"\x01\x20", api.ErrShort, 2}, {"\x02\x01b\x00\x02a", api.ErrShort, 5}, {"\x02\x01b\x00\x02", api.ErrShort, 5},
		{"\x01\x01a", api.ErrShort, 3}, {"\x01\x01a\x80", api.ErrShort, 4}, {"\x01\x01a" + tooGreat[:2], api.ErrShort, 5}, {"\x01\x01a" + nines, api.ErrShort, 12},
		{"\x01\x01a\x01", api.ErrShort, 4}, {"\x01\x01a\x02x", api.ErrShort, 4}, {"\x01\x01a\x80\x01" + long(127), api.ErrShort, 5}, {"\x01\x01a" + great, api.ErrShort, 6}, {"\x01\x01a" + great + long(32767), api.ErrShort, 6}, {"\x02\x01b\x011\x01c\x01", api.ErrShort, 8},
		{"\x02\x01a\x00", api.ErrShort, 4}, {"\x08" + manyBytes(7), api.ErrShort, 50}, {"\x08" + manyBytes(8)[:55], api.ErrShort, 56},
	}
}

// brief is a list with the lengths of its texts instead of these, where they are long: messages stay short.
func brief(l []api.Pair) string {
	text := func(s string) string {
		if len(s) > 40 {
			return strconv.Quote(s[:8]) + ".." + strconv.Itoa(len(s))
		}
		return strconv.Quote(s)
	}
	s := ""
	for i, x := range l {
		if i == 12 {
			return "[" + s + " .. " + strconv.Itoa(len(l)) + "]"
		}
		s += " " + text(x.Name) + ":" + text(x.Value)
	}
	return "[" + s + " ]"
}

// wantCursor holds a cursor against its place and its error.
func wantCursor(t *testing.T, s string, c *cursor.Cursor, at int, e api.Errno) {
	t.Helper()
	if c.At() != at || c.Err() != e {
		t.Fatalf("%.60q: at %d with the error %d, not at %d with %d", s, c.At(), c.Err(), at, e)
	}
}

// wantNone holds Take of a cursor with an error against there being nothing, and the cursor against what it was.
func wantNone(t *testing.T, s string, c *cursor.Cursor) {
	t.Helper()
	at, e := c.At(), c.Err()
	for range 2 {
		if l := pairs.Take(c); len(l) != 0 {
			t.Fatalf("%.60q with the error %d: %s", s, e, brief(l))
		}
		wantCursor(t, s, c, at, e)
	}
}

// wantTaken holds Take of a text at a place against pairs, the place behind it, and an error.
func wantTaken(t *testing.T, s string, from int, want []api.Pair, at int, e api.Errno) {
	t.Helper()
	c := cursor.New(s)
	c.Bytes(from)
	if l := pairs.Take(c); !slices.Equal(l, want) {
		t.Fatalf("%.60q from %d: %s, not %s", s, from, brief(l), brief(want))
	}
	wantCursor(t, s, c, at, e)
	if e != api.OK {
		wantNone(t, s, c)
	}
}

// wantPen holds a pen against its text (empty beside an error), how much was written, and its error.
func wantPen(t *testing.T, p *pen.Pen, text string, n int, e api.Errno) {
	t.Helper()
	if s, end := p.End(); s != text || end != e || p.Err() != e || p.Len() != n {
		t.Fatalf("the pen has %.60q, %d, %d bytes, not %.60q, %d, %d bytes", s, end, p.Len(), text, e, n)
	}
}

// wantChecked holds Check against an error.
func wantChecked(t *testing.T, l []api.Pair, e api.Errno) {
	t.Helper()
	if got := pairs.Check(l); got != e {
		t.Fatalf("%s: %d, not %d", brief(l), got, e)
	}
}

// wantValue holds Value against a value, and against whether there is one.
func wantValue(t *testing.T, l []api.Pair, name, want string, there bool) {
	t.Helper()
	if v, ok := pairs.Value(l, name); v != want || ok != there {
		t.Fatalf("%q in %s: %.40q, %t; not %.40q, %t", name, brief(l), v, ok, want, there)
	}
}

// wantWith holds With against pairs and an error.
func wantWith(t *testing.T, l, more, want []api.Pair, e api.Errno) {
	t.Helper()
	if got, err := pairs.With(l, more...); !slices.Equal(got, want) || err != e {
		t.Fatalf("%s with %s: %s, error %d; not %s, error %d", brief(l), brief(more), brief(got), err, brief(want), e)
	}
}

// wantSame holds Same against whether two lists are, asked both ways.
func wantSame(t *testing.T, a, b []api.Pair, want bool) {
	t.Helper()
	if pairs.Same(a, b) != want || pairs.Same(b, a) != want {
		t.Fatalf("%s and %s: %t, %t, not %t", brief(a), brief(b), pairs.Same(a, b), pairs.Same(b, a), want)
	}
}

// P14.1: Check

func TestCheck(t *testing.T) {
	for _, r := range rights() {
		wantChecked(t, r.l, api.OK)
	}
	for _, f := range faults() {
		wantChecked(t, f.l, f.e)
	}
}

func TestCheckOfGreatLists(t *testing.T) {
	wantChecked(t, make([]api.Pair, 1<<20), api.ErrLimit)
	wantChecked(t, of(long(1<<20)), api.ErrLimit)
	wantChecked(t, a(long(1<<24)), api.ErrLimit)
}

// oneFaults are what may be wrong with the pair at a place of many, the name ahead being the one of that place less 1.
func oneFaults(at int) []fault {
	name := strconv.Itoa(1000 + at)
	l := []fault{{of(long(33)), api.ErrLimit}, {of(""), api.ErrEmpty}, {[]api.Pair{{Name: name, Value: tooGreatValue}}, api.ErrLimit}, {[]api.Pair{{Value: tooGreatValue}}, api.ErrEmpty}, {[]api.Pair{{Name: long(33), Value: tooGreatValue}}, api.ErrLimit}}
	if at > 0 { // else there is none ahead
		ahead := strconv.Itoa(1000 + at - 1)
		l = append(l, fault{of(ahead), api.ErrOrder}, fault{of(ahead[:3]), api.ErrOrder}, fault{[]api.Pair{{Name: "0", Value: tooGreatValue}}, api.ErrOrder})
	}
	return l
}

func TestCheckFindsAFaultAtEachPlace(t *testing.T) {
	for at := range 8 {
		for _, f := range oneFaults(at) {
			wantChecked(t, spoilt(many(8), at, f.l[0]), f.e)
			wantChecked(t, spoilt(many(at+1), at, f.l[0]), f.e)
		}
	}
}

// TestCheckTellsTheFirstOfTwo spoils two pairs of 8.
func TestCheckTellsTheFirstOfTwo(t *testing.T) {
	for at := range 8 {
		for behind := at + 1; behind < 8; behind++ {
			for _, f := range oneFaults(at) {
				for _, g := range oneFaults(behind) {
					wantChecked(t, spoilt(spoilt(many(8), at, f.l[0]), behind, g.l[0]), f.e)
				}
			}
		}
	}
}

// P14.1: Take

func TestTakeAtEachPlaceOfAText(t *testing.T) {
	for _, r := range rights() {
		for _, ahead := range []string{"", "a", "\x00", "\x01\x01z\x00", "\xff\x80"} {
			for _, behind := range []string{"", "\x00", "\x01\x01a\x00", "\x01z\x00", "\xff", "\x80\x00"} {
				wantTaken(t, ahead+r.s+behind, len(ahead), r.l, len(ahead)+len(r.s), api.OK)
			}
		}
	}
}

func TestTakeOneBehindTheOther(t *testing.T) {
	s := ""
	for _, r := range rights() {
		s += r.s
	}
	c := cursor.New(s)
	for _, r := range rights() {
		from := c.At()
		if l := pairs.Take(c); !slices.Equal(l, r.l) || c.Since(from) != r.s {
			t.Fatalf("%s of %.60q, not %s", brief(l), c.Since(from), brief(r.l))
		}
	}
	wantCursor(t, s, c, len(s), api.OK)
	if l := pairs.Take(c); len(l) != 0 {
		t.Fatalf("at the end: %s", brief(l))
	}
	wantCursor(t, s, c, len(s), api.ErrShort)
	wantNone(t, s, c)
}

// TestTakeKnowsNothingOfTheOnesAhead reads pairs whose names aren't above those of the pairs ahead of them.
func TestTakeKnowsNothingOfTheOnesAhead(t *testing.T) {
	c := cursor.New("\x01\x01b\x012\x01\x01a\x011\x01\x01a\x011")
	for _, want := range []string{"b2", "a1", "a1"} {
		if l := pairs.Take(c); !slices.Equal(l, prs(want)) {
			t.Fatalf("%s, not %s", brief(l), want)
		}
	}
	wantCursor(t, "three", c, 15, api.OK)
}

func TestTakeOfEachError(t *testing.T) {
	for _, w := range wrongs() {
		for _, ahead := range []string{"", "a", "\x01\x01z\x00", "\xff\xff"} {
			for _, behind := range []string{"", "\x00", "\x01\x01a\x00", "\xff"} {
				wantTaken(t, ahead+w.s+behind, len(ahead), nil, len(ahead)+w.at, w.e)
			}
		}
	}
}

func TestTakeOfWhatEndsTooEarly(t *testing.T) {
	for _, w := range shorts() {
		for _, ahead := range []string{"", "a", "\x01\x01z\x00", "\xff\xff"} {
			wantTaken(t, ahead+w.s, len(ahead), nil, len(ahead)+w.at, w.e)
		}
	}
}

// TestTakeOfEachBeginning cuts the bytes of right pairs: the place is the end of the part ahead of the one that isn't whole, but within a number the end of the text.
func TestTakeOfEachBeginning(t *testing.T) {
	for _, r := range rights() {
		at := 0
		for i, part := range parts(r.l) {
			number := i%2 == 0 // the count, then names and values with their lengths ahead
			if i > 0 {
				number = i%2 == 1
			}
			for n := range len(part) {
				place := at
				if number {
					place = at + n
				}
				wantTaken(t, r.s[:at+n], 0, nil, place, api.ErrShort)
			}
			at += len(part)
		}
		if at != len(r.s) {
			t.Fatalf("%s: %d bytes of parts, not %d", brief(r.l), at, len(r.s))
		}
	}
}

// TestTakeFindsAFaultAtEachPlace spoils one pair of 8.
func TestTakeFindsAFaultAtEachPlace(t *testing.T) {
	for at := range 8 {
		ahead, behind := "\x08"+manyBytes(at), manyBytes(8)[7*(at+1):]
		name := "\x04" + strconv.Itoa(1000+at)
		l := []wrong{{"\x21" + long(33) + "\x00", api.ErrLimit, 1}, {"\x00\x00", api.ErrEmpty, 1}, {"\x84\x00" + name[1:] + "\x00", api.ErrMinimal, 1}, {nines + "\x02" + "a\x00", api.ErrOver, 9}, {name + tooGreat + tooGreatValue, api.ErrLimit, 8}, {name + "\x81\x00v", api.ErrMinimal, 6}, {name + nines + "\x02v", api.ErrOver, 14}}
		if at > 0 { // else there is none ahead
			before := strconv.Itoa(1000 + at - 1)
			l = append(l, wrong{"\x04" + before + "\x01v", api.ErrOrder, 5}, wrong{"\x03" + before[:3] + tooGreat, api.ErrOrder, 4})
		}
		for _, w := range l {
			wantTaken(t, ahead+w.s+behind, 0, nil, len(ahead)+w.at, w.e)
		}
	}
}

// TestTakeBehindPairsThatAreWrong reads right pairs up to the first wrong ones: nothing is read behind them.
func TestTakeBehindPairsThatAreWrong(t *testing.T) {
	for _, w := range wrongs() {
		s := "\x01\x01a\x011\x00" + w.s + "\x01\x01a\x00"
		c := cursor.New(s)
		if l := pairs.Take(c); !slices.Equal(l, prs("a1")) {
			t.Fatalf("%.60q: %s", s, brief(l))
		}
		if l := pairs.Take(c); len(l) != 0 || c.Err() != api.OK {
			t.Fatalf("%.60q: %s, error %d", s, brief(l), c.Err())
		}
		pairs.Take(c)
		wantCursor(t, s, c, 6+w.at, w.e)
		wantNone(t, s, c)
	}
}

func TestTakeOfACursorWithAnError(t *testing.T) {
	for _, e := range anyErrors {
		for _, r := range rights() {
			for _, at := range []int{0, len(r.s) / 2, len(r.s)} {
				s := r.s + "\x00"
				c := cursor.New(s)
				c.Bytes(at)
				c.Fail(e)
				wantCursor(t, s, c, at, e)
				wantNone(t, s, c)
			}
		}
	}
}

func TestTakeOfNil(t *testing.T) {
	var c *cursor.Cursor
	wantCursor(t, "nil", c, 0, api.ErrArg)
	wantNone(t, "nil", c)
}

// P14.1: Put

func TestPut(t *testing.T) {
	for _, r := range rights() {
		for _, room := range []int{len(r.s), len(r.s) + 1, math.MaxInt - 1} {
			p := pen.New(room + 1)
			p.Text("z")
			pairs.Put(p, r.l...)
			wantPen(t, p, "z"+r.s, 1+len(r.s), api.OK)
		}
	}
}

func TestPutOfNone(t *testing.T) {
	p := pen.New(3)
	pairs.Put(p)
	wantPen(t, p, "\x00", 1, api.OK)
	pairs.Put(p, nil...)
	pairs.Put(p, []api.Pair{}...)
	wantPen(t, p, "\x00\x00\x00", 3, api.OK)
	pairs.Put(p)
	wantPen(t, p, "", 3, api.ErrLimit)
}

func TestPutOfOneByOne(t *testing.T) {
	p := pen.New(100)
	pairs.Put(p, api.Pair{Name: "b", Value: "2"}, api.Pair{Name: "c"})
	pairs.Put(p, api.Pair{Name: "a", Value: "1"}) // pairs of their own: their names needn't be above those ahead
	wantPen(t, p, "\x02\x01b\x012\x01c\x00\x01\x01a\x011", 13, api.OK)
}

func TestPutOfManyOnes(t *testing.T) {
	s := ""
	for _, r := range rights() {
		s += r.s
	}
	p := pen.New(len(s))
	for _, r := range rights() {
		pairs.Put(p, r.l...)
	}
	wantPen(t, p, s, len(s), api.OK)
}

// TestPutOfWhatIsNotRight writes nothing of it, and nothing behind it.
func TestPutOfWhatIsNotRight(t *testing.T) {
	for _, f := range faults() {
		p := pen.New(1 << 20)
		pairs.Put(p, prs("a1")...)
		pairs.Put(p, f.l...)
		wantPen(t, p, "", 5, f.e)
		pairs.Put(p)
		pairs.Put(p, prs("a1")...)
		wantPen(t, p, "", 5, f.e)
	}
}

func TestPutFindsAFaultAtEachPlace(t *testing.T) {
	for at := range 8 {
		for _, f := range oneFaults(at) {
			p := pen.New(1 << 20)
			p.Text("z")
			pairs.Put(p, spoilt(many(8), at, f.l[0])...)
			wantPen(t, p, "", 1, f.e)
		}
	}
}

// TestPutOfWhatIsNotRightWhereNothingFits tells Check's error, since none of its bytes is tried.
func TestPutOfWhatIsNotRightWhereNothingFits(t *testing.T) {
	for _, f := range faults() {
		for _, room := range []int{math.MinInt, -1, 0} {
			p := pen.New(room)
			pairs.Put(p, f.l...)
			wantPen(t, p, "", 0, f.e)
		}
	}
}

func TestPutOfAPenWithAnError(t *testing.T) {
	for _, e := range anyErrors {
		p := pen.New(1 << 20)
		p.Text("ab")
		p.Fail(e)
		pairs.Put(p)
		for _, r := range rights() {
			pairs.Put(p, r.l...)
			wantPen(t, p, "", 2, e)
		}
		for _, f := range faults() {
			pairs.Put(p, f.l...)
			wantPen(t, p, "", 2, e)
		}
	}
}

func TestPutOfNil(t *testing.T) {
	var p *pen.Pen
	pairs.Put(p)
	for _, r := range rights() {
		pairs.Put(p, r.l...)
	}
	for _, f := range faults() {
		pairs.Put(p, f.l...)
	}
	wantPen(t, p, "", 0, api.ErrArg)
}

// TestPutAtEachLimit lists by hand how much is written at each limit: pairs whose parts have 1 byte (count), 1 and 3 (name), 1 and 2 (value), 1 and 1, 1 and none, and others behind them.
func TestPutAtEachLimit(t *testing.T) {
	l := []api.Pair{{Name: "abc", Value: "12"}, {Name: "b"}}
	s := "\x02\x03abc\x0212\x01b\x00"
	for room, n := range []int{0, 1, 2, 2, 2, 5, 6, 6, 8, 9, 10} {
		p := pen.New(1 + room)
		p.Text("z")
		pairs.Put(p, l...)
		wantPen(t, p, "", 1+n, api.ErrLimit)
		pairs.Put(p)
		wantPen(t, p, "", 1+n, api.ErrLimit)
	}
	p := pen.New(11)
	pairs.Put(p, l...)
	wantPen(t, p, s, 11, api.OK)
}

// TestPutOfALongValueAtEachLimit is of a value whose length has 2 bytes, and of one whose length has 3: no part of them is written.
func TestPutOfALongValueAtEachLimit(t *testing.T) {
	for room, n := range map[int]int{3: 3, 4: 3, 5: 5, 6: 5, 132: 5} {
		p := pen.New(room)
		pairs.Put(p, a(long(128))...)
		wantPen(t, p, "", n, api.ErrLimit)
	}
	for room, n := range map[int]int{3: 3, 4: 3, 5: 3, 6: 6, 7: 6, 32773: 6} {
		p := pen.New(room)
		pairs.Put(p, a(greatValue)...)
		wantPen(t, p, "", n, api.ErrLimit)
	}
}

// TestPutOfEachRightOneAtEachLimit cuts all right pairs, so that the limit is within each of their parts.
func TestPutOfEachRightOneAtEachLimit(t *testing.T) {
	for _, r := range rights() {
		var ends []int // where parts end
		at := 0
		for _, part := range parts(r.l) {
			at += len(part)
			ends = append(ends, at)
		}
		for _, room := range rooms(ends) {
			n := 0
			for _, end := range ends {
				if end <= room {
					n = end
				}
			}
			p := pen.New(room)
			pairs.Put(p, r.l...)
			wantPen(t, p, "", n, api.ErrLimit)
		}
	}
}

// rooms are limits below the last end: all of them, in long texts those around ends.
func rooms(ends []int) []int {
	last := ends[len(ends)-1]
	var l []int
	for room := range last {
		if last < 2000 || slices.ContainsFunc(ends, func(end int) bool { return end-3 < room && room < end+3 }) {
			l = append(l, room)
		}
	}
	return l
}

// P14.2: Value

func TestValue(t *testing.T) {
	l := prs("a1 c3 d e5")
	wantValue(t, l, "a", "1", true)
	wantValue(t, l, "c", "3", true)
	wantValue(t, l, "d", "", true)
	wantValue(t, l, "e", "5", true)
	for _, name := range []string{"", "b", "f", "A", "a1", "aa", "1", "3", "\x00", "a\x00", long(33), long(1 << 20)} {
		wantValue(t, l, name, "", false)
		wantValue(t, nil, name, "", false)
		wantValue(t, []api.Pair{}, name, "", false)
	}
	for _, r := range rights() {
		for _, x := range r.l {
			wantValue(t, r.l, x.Name, x.Value, true)
			wantValue(t, r.l, x.Name+"!", "", false)
			wantValue(t, r.l, "!"+x.Name, "", false)
		}
	}
}

// TestValueInWhatIsNotRight is of names that come twice, that fall, that are empty or too long, of values that are too long, and of long lists.
func TestValueInWhatIsNotRight(t *testing.T) {
	l := prs("b1 a2 b3 a4 c5")
	wantValue(t, l, "b", "1", true)
	wantValue(t, l, "a", "2", true)
	wantValue(t, l, "c", "5", true)
	wantValue(t, l, "", "", false)
	wantValue(t, prs("a a1"), "a", "", true)
	l = append(l, api.Pair{Name: "", Value: "6"}, api.Pair{Name: "", Value: "7"}, api.Pair{Name: long(33), Value: "8"}, api.Pair{Name: "z", Value: tooGreatValue})
	wantValue(t, l, "", "6", true)
	wantValue(t, l, long(33), "8", true)
	wantValue(t, l, "z", tooGreatValue, true)
	wantValue(t, l, long(32), "", false)
	wantValue(t, make([]api.Pair, 3), "", "", true)
	wantValue(t, make([]api.Pair, 3), "a", "", false)
	wantValue(t, many(100000), "100999", "v", true)
	wantValue(t, many(100000), "101000", "", false)
	for _, f := range faults() {
		wantValue(t, f.l, f.l[0].Name, f.l[0].Value, true)
		wantValue(t, f.l, "none", "", false)
	}
}

// P14.2: With

func TestWithOfNone(t *testing.T) {
	for _, r := range rights() {
		wantWith(t, r.l, nil, r.l, api.OK)
		wantWith(t, r.l, []api.Pair{}, r.l, api.OK)
		wantWith(t, nil, r.l, r.l, api.OK)
		wantWith(t, []api.Pair{}, r.l, r.l, api.OK)
		wantWith(t, r.l, r.l, r.l, api.OK)
	}
}

func TestWithOfOne(t *testing.T) {
	for _, w := range []struct{ l, more, want string }{
		{"", "a1", "a1"}, {"", "a", "a"},
		// one more: at the beginning, in the midst, at the end
		{"b2", "a1", "a1 b2"}, {"b2", "c3", "b2 c3"}, {"b2 d4", "a1", "a1 b2 d4"}, {"b2 d4", "c3", "b2 c3 d4"}, {"b2 d4", "e5", "b2 d4 e5"}, {"b d f", "e", "b d e f"}, {"a1 b2 c3 d4 e5 f6 g7", "h8", "a1 b2 c3 d4 e5 f6 g7 h8"}, {"b2 c3 d4 e5 f6 g7 h8", "a1", "a1 b2 c3 d4 e5 f6 g7 h8"}, {"a1 b2 c3 e5 f6 g7 h8", "d4", "a1 b2 c3 d4 e5 f6 g7 h8"},
		// one of a name that is there
		{"a1", "a2", "a2"}, {"a1", "a1", "a1"}, {"a1", "a", "a"}, {"a", "a1", "a1"}, {"a1 b2 c3", "a9", "a9 b2 c3"}, {"a1 b2 c3", "b9", "a1 b9 c3"}, {"a1 b2 c3", "c9", "a1 b2 c9"}, {"a1 b2 c3", "c", "a1 b2 c"}, {"a1 b2", "a3", "a3 b2"},
	} {
		wantWith(t, prs(w.l), prs(w.more), prs(w.want), api.OK)
	}
}

func TestWithOfNamesThatBeginWithOthers(t *testing.T) {
	l := of("a", "aa", "b")
	for _, w := range []struct {
		name string
		at   int
	}{{"a\x00", 1}, {"aaa", 2}, {"aa\x00", 2}, {"ab", 2}, {"b\x00", 3}, {"\x00", 0}, {"A", 0}, {"\xff", 3}, {"\xc3\xa4", 3}, {long(32), 3}, {"a\xff", 2}} {
		x := api.Pair{Name: w.name, Value: "1"}
		wantWith(t, l, []api.Pair{x}, slices.Insert(slices.Clone(l), w.at, x), api.OK)
	}
}

func TestWithOfSeveral(t *testing.T) {
	for _, w := range []struct{ l, more, want string }{
		{"a1 b2", "c3 d4", "a1 b2 c3 d4"}, {"c3 d4", "a1 b2", "a1 b2 c3 d4"}, {"b2", "c3 a1", "a1 b2 c3"}, {"", "c3 b2 a1", "a1 b2 c3"}, {"a1 c3 e5", "b2 d4 f6", "a1 b2 c3 d4 e5 f6"}, {"a1 c3", "c9 b8 a7", "a7 b8 c9"},
		// the same name twice: the last one stands
		{"", "a1 a2", "a2"}, {"", "a2 a1", "a1"}, {"a0", "a1 a2", "a2"}, {"b0", "a1 c3 a2", "a2 b0 c3"}, {"a1", "a2 a1", "a1"}, {"a1 c3", "b1 b2 b3 c4 b5", "a1 b5 c4"}, {"a1", "a2 a", "a"},
		// to 8 pairs
		{"a b c d", "e f g h", "a b c d e f g h"}, {"", "h g f e d c b a", "a b c d e f g h"},
	} {
		wantWith(t, prs(w.l), prs(w.more), prs(w.want), api.OK)
	}
}

func TestWithOfEightPairs(t *testing.T) {
	l := many(8)
	for _, w := range []struct {
		name string
		at   int
	}{{"0", 0}, {"1", 0}, {"1000\x00", 1}, {"10035", 4}, {"1008", 7}, {"z", 7}} { // a new name: at the beginning, in the midst, at the end
		wantWith(t, l, of(w.name), nil, api.ErrLimit)
		wantWith(t, l, of("1003", w.name), nil, api.ErrLimit)
		wantWith(t, l, of(w.name, w.name), nil, api.ErrLimit)
		wantWith(t, l, of(w.name, "1003"), nil, api.ErrLimit)
		wantWith(t, l[:7], of(w.name, w.name), slices.Insert(many(7), w.at, of(w.name)[0]), api.OK)
		wantWith(t, l[:7], of(w.name, "zz"), nil, api.ErrLimit)
	}
	for at, x := range l { // an old one
		x.Value = "9"
		wantWith(t, l, []api.Pair{x}, spoilt(l, at, x), api.OK)
	}
	all := many(8)
	for i := range all {
		all[i].Value = "9"
	}
	wantWith(t, l, all, all, api.OK)
	wantWith(t, l, slices.Repeat(all, 100), all, api.OK)
	wantWith(t, l, many(9), nil, api.ErrLimit)
	wantWith(t, nil, many(9), nil, api.ErrLimit)
	wantWith(t, nil, many(8), l, api.OK)
	wantWith(t, l[:1], many(8), l, api.OK)
	wantWith(t, l[:4], many(200), nil, api.ErrLimit)
}

func TestWithOfWhatIsNotRight(t *testing.T) {
	for _, f := range faults() {
		for _, more := range [][]api.Pair{nil, {}, prs("a1"), prs("a1 b2"), of("z"), of(""), of(long(33)), f.l, many(9), {{Name: "a", Value: tooGreatValue}}} {
			wantWith(t, f.l, more, nil, api.ErrArg)
		}
	}
}

// badAlone are pairs that aren't right by themselves.
func badAlone() []api.Pair {
	return []api.Pair{{}, {Value: "1"}, {Name: long(33)}, {Name: long(1000), Value: "1"}, {Name: "a", Value: tooGreatValue}, {Name: "zz", Value: tooGreatValue}, {Value: tooGreatValue}, {Name: long(33), Value: tooGreatValue}}
}

// TestWithOfOneMoreThatIsNotRight has it at each place among right ones. ErrArg is told ahead of ErrLimit, wherever it stands.
func TestWithOfOneMoreThatIsNotRight(t *testing.T) {
	for _, bad := range badAlone() {
		for _, l := range [][]api.Pair{nil, prs("a1"), prs("b1 c2"), many(7), many(8)} {
			wantWith(t, l, []api.Pair{bad}, nil, api.ErrArg)
			for _, more := range [][]api.Pair{prs("a1"), prs("a1 b2 c3"), prs("c3 b2 a1 c4"), many(9), prs("a b c d e f g h i j k l")} {
				for at := range len(more) + 1 {
					wantWith(t, l, slices.Insert(slices.Clone(more), at, bad), nil, api.ErrArg)
				}
			}
		}
	}
}

func TestWithAtTheEdgesOfOneMore(t *testing.T) {
	for _, x := range []api.Pair{{Name: "b", Value: greatValue}, {Name: "b" + long(31), Value: "1"}, {Name: "b" + long(31), Value: greatValue}, {Name: "b"}, {Name: "b\x00"}} {
		wantWith(t, nil, []api.Pair{x}, []api.Pair{x}, api.OK)
		wantWith(t, prs("a1 c2"), []api.Pair{x}, []api.Pair{prs("a1")[0], x, prs("c2")[0]}, api.OK)
		wantWith(t, []api.Pair{x}, prs("a1"), []api.Pair{prs("a1")[0], x}, api.OK)
	}
	wantWith(t, greatest(), nil, greatest(), api.OK)
	wantWith(t, greatest(), greatest(), greatest(), api.OK)
	wantWith(t, greatest(), of("a"), nil, api.ErrLimit)
}

func TestWithOfVeryMany(t *testing.T) {
	l := prs("a1 b2")
	wantWith(t, l, slices.Repeat(prs("b3 a4"), 1<<17), prs("a4 b3"), api.OK)
	wantWith(t, l, slices.Repeat(prs("c5"), 1<<17), prs("a1 b2 c5"), api.OK)
	wantWith(t, l, many(1<<17), nil, api.ErrLimit)
	wantWith(t, l, append(many(1<<17), api.Pair{}), nil, api.ErrArg)
	wantWith(t, many(1<<17), l, nil, api.ErrArg)
	wantWith(t, l, make([]api.Pair, 1<<17), nil, api.ErrArg)
}

func TestTheExample(t *testing.T) {
	l := prs("a1 b2")
	got, e := pairs.With(l, api.Pair{Name: "a", Value: "3"})
	if e != api.OK || !pairs.Same(got, prs("a3 b2")) || !pairs.Same(l, prs("a1 b2")) {
		t.Fatalf("%s, error %d, of %s", brief(got), e, brief(l))
	}
}

// P14.2: Same

func TestSame(t *testing.T) {
	wantSame(t, nil, nil, true)
	wantSame(t, nil, []api.Pair{}, true)
	wantSame(t, []api.Pair{}, make([]api.Pair, 0, 9), true)
	wantSame(t, nil, make([]api.Pair, 1), false)
	all := rights()[1:] // the first two are the same
	for i, r := range all {
		for j, o := range all {
			wantSame(t, r.l, slices.Clone(o.l), i == j)
		}
	}
	for _, f := range faults() {
		wantSame(t, f.l, slices.Clone(f.l), true)
		wantSame(t, f.l, nil, false)
		wantSame(t, f.l, append(slices.Clone(f.l), api.Pair{}), false)
	}
}

func TestSameOfListsThatDiffer(t *testing.T) {
	for _, w := range []struct{ a, b string }{
		// in their length
		{"", "a"}, {"a1", "a1 b2"}, {"b2", "a1 b2"}, {"a1 b2 c3", "a1 b2"}, {"a1", "a1 a1"},
		// in a name
		{"a1", "b1"}, {"a1 b2", "a1 c2"}, {"a1 b2", "c1 b2"}, {"a", "A"},
		// in a value
		{"a1", "a2"}, {"a1", "a"}, {"a1", "a11"}, {"a1 b2", "a1 b3"}, {"a1 b2", "a2 b2"}, {"a1 b2 c3", "a1 b c3"},
		// in their order
		{"a1 b2", "b2 a1"}, {"a1 a2", "a2 a1"}, {"a1 b2 c3", "a1 c3 b2"},
		// in which name has which value, and where a name ends
		{"a1 b2", "a2 b1"}, {"ab", "ba"},
	} {
		wantSame(t, prs(w.a), prs(w.b), false)
	}
	wantSame(t, []api.Pair{{Name: "ab"}}, []api.Pair{{Name: "a", Value: "b"}}, false)
	wantSame(t, []api.Pair{{Name: "a"}}, []api.Pair{{Name: "a\x00"}}, false)
	wantSame(t, []api.Pair{{Name: "a"}}, []api.Pair{{Value: "a"}}, false)
	wantSame(t, a(greatValue), a(greatValue[1:]+"y"), false)
	wantSame(t, a(greatValue), a(tooGreatValue), false)
	wantSame(t, make([]api.Pair, 8), make([]api.Pair, 9), false)
	wantSame(t, many(100000), many(100000), true)
	wantSame(t, many(100000), append(many(99999), api.Pair{Name: "z", Value: "v"}), false)
}

// What is written is read again, and the other way round.

// otherBytes are the bytes into which one of a text is turned: all of them, in long texts those at edges and those beside it.
func otherBytes(b byte, long bool) []byte {
	if long {
		return []byte{0, 1, 8, 9, 32, 33, 127, 128, 129, 255, b - 1, b + 1, b ^ 128}
	}
	var l []byte
	for i := range 256 {
		l = append(l, byte(i))
	}
	return l
}

// TestOneByteThatIsAnother turns each byte of right pairs' texts into others: what is read then are other pairs, whose bytes those are.
func TestOneByteThatIsAnother(t *testing.T) {
	for _, r := range rights() {
		if len(r.s) > 40000 {
			continue
		}
		for at := range len(r.s) {
			if at > 200 && at < len(r.s)-2 { // one byte of a value is as good as another one
				continue
			}
			for _, b := range otherBytes(r.s[at], len(r.s) > 100) {
				s := r.s[:at] + string([]byte{b}) + r.s[at+1:]
				wantPlain(t, s)
				c := cursor.New(s)
				if l := pairs.Take(c); c.Err() == api.OK && s != r.s && c.At() == len(s) && slices.Equal(l, r.l) {
					t.Fatalf("%.60q and %.60q are both %s", s, r.s, brief(l))
				}
			}
		}
	}
}

func TestEachRightOneHasATextOfItsOwn(t *testing.T) {
	seen := map[string][]api.Pair{}
	for _, r := range rights() {
		if l, ok := seen[r.s]; ok && !pairs.Same(l, r.l) {
			t.Fatalf("%s and %s have the same bytes", brief(l), brief(r.l))
		}
		seen[r.s] = r.l
		l := pairs.Take(cursor.New(r.s))
		wantChecked(t, l, api.OK)
		p := pen.New(len(r.s))
		pairs.Put(p, l...)
		wantPen(t, p, r.s, len(r.s), api.OK)
	}
}

// R4

// inside are pairs in the midst of a longer list, and that list: what is behind them would be told, were it read or written.
func inside(l []api.Pair) ([]api.Pair, []api.Pair) {
	whole := append(slices.Clone(l), prs("y8 z9 zz")...)
	return whole[:len(l)], whole
}

// spoil writes over a list, and over what lies behind it in its memory.
func spoil(l []api.Pair) {
	l = l[:cap(l)]
	for i := range l {
		l[i] = api.Pair{Name: "spoiled", Value: "too"}
	}
}

// anyLists are lists, right and not.
func anyLists() [][]api.Pair {
	lists := [][]api.Pair{prs("b1 a2"), many(9), of(""), make([]api.Pair, 8)}
	for _, r := range rights() {
		lists = append(lists, r.l)
	}
	for _, f := range faults() {
		lists = append(lists, f.l)
	}
	return lists
}

func TestWhatIsHandedInStaysAsItWas(t *testing.T) {
	others := [][]api.Pair{nil, prs("a1"), prs("b9 a8 b7"), prs("c c1"), many(8), of("")}
	for _, l := range anyLists() {
		for _, o := range others {
			one, whole := inside(l)
			two, whole2 := inside(o)
			was, was2 := slices.Clone(whole), slices.Clone(whole2)
			p := pen.New(1 << 20)
			pairs.Check(one)
			pairs.Put(p, one...)
			pairs.Value(one, "y")
			pairs.With(one, two...)
			pairs.With(two, one...)
			pairs.With(one, one...)
			pairs.Same(one, two)
			if !slices.Equal(whole, was) || !slices.Equal(whole2, was2) {
				t.Fatalf("%s became %s; %s became %s", brief(was), brief(whole), brief(was2), brief(whole2))
			}
			text, e := p.End()
			spoil(whole)
			if again, f := p.End(); again != text || f != e {
				t.Fatalf("the pen had %.60q, %d, and has %.60q, %d", text, e, again, f)
			}
		}
	}
}

// TestWhatLiesBehindIsNotRead is of pairs that stand behind a list's length.
func TestWhatLiesBehindIsNotRead(t *testing.T) {
	l, whole := inside(prs("a1 b2"))
	wantValue(t, l, "y", "", false)
	wantValue(t, whole, "y", "8", true)
	wantSame(t, l, whole[:3], false)
	wantWith(t, l, nil, prs("a1 b2"), api.OK)
	wantWith(t, l, prs("b3"), prs("a1 b3"), api.OK)
	wantWith(t, prs("a0"), l, prs("a1 b2"), api.OK)
	wantWith(t, many(8)[:0], prs("b3"), prs("b3"), api.OK)
	wantChecked(t, many(9)[:8], api.OK)
	wantChecked(t, make([]api.Pair, 9)[:0], api.OK)
}

// TestWhatWithAnswersIsNew writes over the answer, and over what lies behind it, and then over what was handed in.
func TestWhatWithAnswersIsNew(t *testing.T) {
	for _, r := range rights() {
		mores := [][]api.Pair{nil, {}, r.l, prs("a9"), prs("b9"), prs("z9"), of("\x00"), prs("c9 a9 c8")}
		if len(r.l) > 0 {
			mores = append(mores, r.l[:1], r.l[len(r.l)-1:])
		}
		for _, more := range mores {
			l, whole := inside(r.l)
			two, whole2 := inside(more)
			was, was2 := slices.Clone(whole), slices.Clone(whole2)
			one, e := pairs.With(l, two...)
			again, f := pairs.With(l, two...)
			want := slices.Clone(one)
			if e != f || !slices.Equal(again, want) {
				t.Fatalf("%s, %d, then %s, %d", brief(want), e, brief(again), f)
			}
			spoil(one)
			if !slices.Equal(again, want) || !slices.Equal(whole, was) || !slices.Equal(whole2, was2) {
				t.Fatalf("%s became %s; %s became %s; %s became %s", brief(want), brief(again), brief(was), brief(whole), brief(was2), brief(whole2))
			}
			spoil(whole)
			spoil(whole2)
			if !slices.Equal(again, want) {
				t.Fatalf("%s became %s", brief(want), brief(again))
			}
		}
	}
}

// TestWhatWithAnswersMayBeGrown hands an answer to With again: the two that come of it have nothing to do with one another.
func TestWhatWithAnswersMayBeGrown(t *testing.T) {
	base, _ := pairs.With(nil, prs("a1 b2 c3")...)
	one, _ := pairs.With(base, prs("d4")...)
	two, _ := pairs.With(base, prs("e5")...)
	three, _ := pairs.With(base, prs("b9")...)
	grown := append(base, prs("f6")...)
	for _, w := range []struct {
		l    []api.Pair
		want string
	}{{base, "a1 b2 c3"}, {one, "a1 b2 c3 d4"}, {two, "a1 b2 c3 e5"}, {three, "a1 b9 c3"}, {grown, "a1 b2 c3 f6"}} {
		wantSame(t, w.l, prs(w.want), true)
	}
}

func TestWhatTakeAnswersIsNew(t *testing.T) {
	for _, r := range rights() {
		c := cursor.New(r.s + r.s + r.s)
		one, two := pairs.Take(c), pairs.Take(c)
		spoil(one)
		if three := pairs.Take(c); !slices.Equal(two, r.l) || !slices.Equal(three, r.l) {
			t.Fatalf("of %.60q: %s, %s", r.s, brief(two), brief(three))
		}
		wantCursor(t, r.s, c, 3*len(r.s), api.OK)
	}
}

// TestTheSameAnswerEachTime asks the same many times.
func TestTheSameAnswerEachTime(t *testing.T) {
	for range 100 {
		wantTaken(t, greatestBytes(), 0, greatest(), len(greatestBytes()), api.OK)
		wantTaken(t, "\x01\x00", 0, nil, 2, api.ErrEmpty)
		wantWith(t, prs("a1 c3"), prs("d4 b2 a0"), prs("a0 b2 c3 d4"), api.OK)
		wantWith(t, prs("a1 c3"), of(""), nil, api.ErrArg)
		wantValue(t, prs("a1 a2"), "a", "1", true)
	}
}
