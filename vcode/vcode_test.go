package vcode_test

import (
	"math"
	"slices"
	"strconv"
	"strings"
	"testing"

	"spence/api"
	"spence/cursor"
	"spence/pen"
	"spence/vcode"
	"spence/vector"
)

const most = math.MaxUint64 // the greatest count

// The bytes of numbers at the edges, and of what is none.
const (
	mostBytes = "\xff\xff\xff\xff\xff\xff\xff\xff\xff\x01" // of the greatest one
	nines     = "\x80\x80\x80\x80\x80\x80\x80\x80\x80"     // the tenth byte ends it, or is too great
)

// anyErrors are errors that a cursor, or a pen, may have, those that aren't named too.
var anyErrors = []api.Errno{api.ErrArg, api.ErrShort, api.ErrLimit, api.ErrOrder, api.ErrTrail, api.ErrForm, -1, 19, math.MaxInt, math.MinInt}

// vec is a vector of actors of one byte with their counts: "a1 c2".
func vec(s string) []api.Entry {
	var v []api.Entry
	for _, w := range strings.Fields(s) {
		n, err := strconv.ParseUint(w[1:], 10, 64)
		if err != nil {
			panic(err)
		}
		v = append(v, api.Entry{Actor: w[:1], Count: n})
	}
	return v
}

// many is a right vector of n actors, all of four digits, so that they rise; each count is 3.
func many(n int) []api.Entry {
	var v []api.Entry
	for i := range n {
		v = append(v, api.Entry{Actor: strconv.Itoa(1000 + i), Count: 3})
	}
	return v
}

// manyBytes are the entries' bytes of many.
func manyBytes(n int) string {
	s := ""
	for i := range n {
		s += "\x04" + strconv.Itoa(1000+i) + "\x03"
	}
	return s
}

// greatest is the vector with the most bytes.
func greatest() []api.Entry {
	v := many(64)
	for i := range v {
		v[i] = api.Entry{Actor: v[i].Actor + long(28), Count: most}
	}
	return v
}

// greatestBytes are the bytes of greatest.
func greatestBytes() string {
	s := "\x40"
	for i := range 64 {
		s += "\x20" + strconv.Itoa(1000+i) + long(28) + mostBytes
	}
	return s
}

// of is a vector of some actors, each with the count 1.
func of(actors ...string) []api.Entry {
	var v []api.Entry
	for _, s := range actors {
		v = append(v, api.Entry{Actor: s, Count: 1})
	}
	return v
}

// long is an actor of n bytes.
func long(n int) string {
	return strings.Repeat("x", n)
}

// with is a vector in which the entry at a place is another one.
func with(v []api.Entry, at int, e api.Entry) []api.Entry {
	l := slices.Clone(v)
	l[at] = e
	return l
}

// right is a right vector, and its bytes.
type right struct {
	v []api.Entry
	s string
}

// rights are right vectors, at all edges.
func rights() []right {
	return []right{
		{nil, "\x00"}, {[]api.Entry{}, "\x00"},
		{vec("a1"), "\x01\x01a\x01"}, {vec("a2"), "\x01\x01a\x02"}, {vec("b1"), "\x01\x01b\x01"}, {vec("a1 b1"), "\x02\x01a\x01\x01b\x01"}, {vec("a1 b2 c3"), "\x03\x01a\x01\x01b\x02\x01c\x03"}, {vec("a2 b1"), "\x02\x01a\x02\x01b\x01"},
		// how many entries
		{many(2), "\x02" + manyBytes(2)}, {many(63), "\x3f" + manyBytes(63)}, {many(64), "\x40" + manyBytes(64)}, {greatest(), greatestBytes()},
		// how long actors are
		{of(long(2)), "\x01\x02xx\x01"}, {of(long(31)), "\x01\x1f" + long(31) + "\x01"}, {of(long(32)), "\x01\x20" + long(32) + "\x01"}, {of(long(31), long(32)), "\x02\x1f" + long(31) + "\x01\x20" + long(32) + "\x01"},
		// actors that begin with others
		{of("a", "aa", "aaa"), "\x03\x01a\x01\x02aa\x01\x03aaa\x01"}, {of("a", "a\x00", "a\x00\x00", "a\x01"), "\x04\x01a\x01\x02a\x00\x01\x03a\x00\x00\x01\x02a\x01\x01"}, {of("a", "ab", "b"), "\x03\x01a\x01\x02ab\x01\x01b\x01"}, {of("ab", "b"), "\x02\x02ab\x01\x01b\x01"},
		// any bytes
		{of("\x00"), "\x01\x01\x00\x01"}, {of("\x00", "\x00\x00"), "\x02\x01\x00\x01\x02\x00\x00\x01"}, {of("\x7f", "\x80"), "\x02\x01\x7f\x01\x01\x80\x01"}, {of("\x7f", "\x80", "\xff", "\xff\xff"), "\x04\x01\x7f\x01\x01\x80\x01\x01\xff\x01\x02\xff\xff\x01"}, {of("a", "\xc3\xa4"), "\x02\x01a\x01\x02\xc3\xa4\x01"}, {of(strings.Repeat("\xff", 32)), "\x01\x20" + strings.Repeat("\xff", 32) + "\x01"}, {of("A", "a"), "\x02\x01A\x01\x01a\x01"}, {of("\x01", "\x80\x01"), "\x02\x01\x01\x01\x02\x80\x01\x01"},
		// counts
		{vec("a127"), "\x01\x01a\x7f"}, {vec("a128"), "\x01\x01a\x80\x01"}, {vec("a300 b127 c128"), "\x03\x01a\xac\x02\x01b\x7f\x01c\x80\x01"}, {vec("a16383"), "\x01\x01a\xff\x7f"}, {vec("a16384"), "\x01\x01a\x80\x80\x01"}, {vec("a4294967296"), "\x01\x01a\x80\x80\x80\x80\x10"},
		{[]api.Entry{{Actor: "a", Count: 1<<63 - 1}}, "\x01\x01a\xff\xff\xff\xff\xff\xff\xff\xff\x7f"}, {[]api.Entry{{Actor: "a", Count: 1 << 63}}, "\x01\x01a" + nines + "\x01"}, {[]api.Entry{{Actor: "a", Count: most - 1}}, "\x01\x01a\xfe" + mostBytes[1:]}, {[]api.Entry{{Actor: "a", Count: most}}, "\x01\x01a" + mostBytes}, {[]api.Entry{{Actor: "a", Count: most}, {Actor: "b", Count: 1}}, "\x02\x01a" + mostBytes + "\x01b\x01"},
	}
}

// fault is a list that isn't right, and why.
type fault struct {
	v []api.Entry
	e api.Errno
}

// faults are lists with each of Check's errors.
func faults() []fault {
	return []fault{
		{many(65), api.ErrLimit}, {many(66), api.ErrLimit}, {many(200), api.ErrLimit}, {make([]api.Entry, 65), api.ErrLimit}, {with(many(65), 0, api.Entry{}), api.ErrLimit}, {with(many(65), 64, vec("a0")[0]), api.ErrLimit},
		{of(long(33)), api.ErrLimit}, {of(long(1000)), api.ErrLimit}, {of("a", long(33)), api.ErrLimit}, {of(long(33), "y"), api.ErrLimit}, {of(strings.Repeat("\x00", 33)), api.ErrLimit}, {with(many(64), 63, of(long(33))[0]), api.ErrLimit},
		{of(""), api.ErrEmpty}, {of("", "a"), api.ErrEmpty}, {of("a", ""), api.ErrEmpty}, {make([]api.Entry, 64), api.ErrEmpty}, {with(many(64), 63, of("")[0]), api.ErrEmpty},
		{of("a", "a"), api.ErrOrder}, {of("b", "a"), api.ErrOrder}, {vec("a1 a2"), api.ErrOrder}, {of("ab", "a"), api.ErrOrder}, {of("a", "c", "b"), api.ErrOrder}, {of("a", "b", "a"), api.ErrOrder}, {of("\x80", "\x7f"), api.ErrOrder}, {of("\xff", "a"), api.ErrOrder}, {of("b", "aa"), api.ErrOrder}, {of(long(32), long(31)), api.ErrOrder}, {with(many(64), 63, many(1)[0]), api.ErrOrder},
		{vec("a0"), api.ErrZero}, {vec("a0 b1"), api.ErrZero}, {vec("a1 b0"), api.ErrZero}, {vec("a1 b0 c1"), api.ErrZero}, {with(many(64), 63, api.Entry{Actor: "z"}), api.ErrZero},
		// two errors
		{[]api.Entry{{Actor: long(33)}}, api.ErrLimit}, {of("y", long(33)), api.ErrLimit}, {[]api.Entry{{}}, api.ErrEmpty}, {vec("b1 a0"), api.ErrOrder}, {vec("a0 a1"), api.ErrZero}, {append(vec("a0"), of(long(33))...), api.ErrZero}, {append(of(long(33)), vec("a0")...), api.ErrLimit}, {append(of("b", "a"), of("")...), api.ErrOrder},
	}
}

// wrong is a text that begins with no vector: the error, and the place behind it.
type wrong struct {
	s  string
	e  api.Errno
	at int
}

// wrongs are texts with each of the errors of reading, but for bytes that end too early.
func wrongs() []wrong {
	return []wrong{
		// the count of entries
		{"\x41", api.ErrLimit, 1}, {"\x41" + manyBytes(65), api.ErrLimit, 1}, {"\x7f", api.ErrLimit, 1}, {"\x80\x01", api.ErrLimit, 2}, {mostBytes, api.ErrLimit, 10}, {nines + "\x01", api.ErrLimit, 10}, {"\x80\x80\x80\x80\x10", api.ErrLimit, 5}, {"\x80\x80\x80\x80\x10\x01a\x01", api.ErrLimit, 5},
		{"\x80\x00", api.ErrMinimal, 1}, {"\x81\x00\x01a\x01", api.ErrMinimal, 1}, {"\xc0\x80\x00", api.ErrMinimal, 2}, {"\xc1\x00", api.ErrMinimal, 1}, {nines + "\x00", api.ErrMinimal, 9}, {nines + "\x02", api.ErrOver, 9}, {nines + "\x80", api.ErrOver, 9}, {nines + "\xff", api.ErrOver, 9},
		// an actor's length
		{"\x01\x21", api.ErrLimit, 2}, {"\x01\x21" + long(33) + "\x01", api.ErrLimit, 2}, {"\x01\x7fa", api.ErrLimit, 2}, {"\x01\x80\x01", api.ErrLimit, 3}, {"\x01" + mostBytes, api.ErrLimit, 11}, {"\x01" + nines + "\x01", api.ErrLimit, 11}, {"\x02\x01a\x01\x21", api.ErrLimit, 5},
		{"\x01\x80\x00", api.ErrMinimal, 2}, {"\x01\x81\x00a\x01", api.ErrMinimal, 2}, {"\x01\xa1\x00", api.ErrMinimal, 2}, {"\x02\x01a\x01\x81\x00b\x01", api.ErrMinimal, 5}, {"\x01" + nines + "\x02", api.ErrOver, 10}, {"\x02\x01a\x01" + nines + "\x7f", api.ErrOver, 13},
		// an actor that is empty
		{"\x01\x00", api.ErrEmpty, 2}, {"\x01\x00\x01", api.ErrEmpty, 2}, {"\x02\x01a\x01\x00", api.ErrEmpty, 5}, {"\x02\x01a\x01\x00\x01", api.ErrEmpty, 5}, {"\x40\x00", api.ErrEmpty, 2},
		// actors that don't rise
		{"\x02\x01a\x01\x01a", api.ErrOrder, 6}, {"\x02\x01a\x01\x01a\x02", api.ErrOrder, 6}, {"\x02\x01b\x01\x01a", api.ErrOrder, 6}, {"\x02\x02ab\x01\x01a\x01", api.ErrOrder, 7}, {"\x02\x01b\x01\x02aa\x01", api.ErrOrder, 7}, {"\x03\x01a\x01\x01c\x01\x01b\x01", api.ErrOrder, 9}, {"\x03\x01a\x01\x01b\x01\x01a\x01", api.ErrOrder, 9}, {"\x02\x01\x80\x01\x01\x7f\x01", api.ErrOrder, 6}, {"\x02\x01\xff\x01\x01a\x01", api.ErrOrder, 6}, {"\x02\x01a\x80\x01\x01a\x01", api.ErrOrder, 7}, {"\x02\x02a\x00\x01\x01a\x01", api.ErrOrder, 7}, {"\x40" + manyBytes(63) + "\x04" + "1062", api.ErrOrder, 384}, {"\x02\x20" + long(32) + "\x01\x1f" + long(31) + "\x01", api.ErrOrder, 67},
		// a count's number
		{"\x01\x01a\x80\x00", api.ErrMinimal, 4}, {"\x01\x01a\x81\x00", api.ErrMinimal, 4}, {"\x01\x01a\xff\x80\x00", api.ErrMinimal, 5}, {"\x01\x01a" + nines + "\x00", api.ErrMinimal, 12}, {"\x01\x01a" + nines + "\x02", api.ErrOver, 12}, {"\x01\x01a" + mostBytes[:9] + "\x02", api.ErrOver, 12}, {"\x01\x01a" + nines + "\x80\x01", api.ErrOver, 12}, {"\x02\x01a\x01\x01b\x81\x00", api.ErrMinimal, 7},
		// a count that is 0
		{"\x01\x01a\x00", api.ErrZero, 4}, {"\x02\x01a\x00\x01b\x01", api.ErrZero, 4}, {"\x02\x01a\x01\x01b\x00", api.ErrZero, 7}, {"\x40" + manyBytes(63) + "\x01z\x00", api.ErrZero, 382},
		// two errors: the first from the left
		{"\x41\x00", api.ErrLimit, 1}, {"\x41\x01a\x00", api.ErrLimit, 1}, {"\x01\x21\x00", api.ErrLimit, 2}, {"\x01\x00\x00", api.ErrEmpty, 2}, {"\x01\x00\x80\x00", api.ErrEmpty, 2}, {"\x02\x01b\x01\x00\x00", api.ErrEmpty, 5}, {"\x02\x01b\x01\x01a\x00", api.ErrOrder, 6}, {"\x02\x01b\x01\x01a\x80\x00", api.ErrOrder, 6}, {"\x02\x01a\x00\x01a\x01", api.ErrZero, 4}, {"\x02\x01a\x00\x00", api.ErrZero, 4}, {"\x02\x01a\x80\x00\x01a", api.ErrMinimal, 4}, {"\x02\x01b\x01\x21" + long(33), api.ErrLimit, 5}, {"\x03\x01b\x01\x01a\x01\x00", api.ErrOrder, 6},
	}
}

// shorts are texts that end too early: the place is that of the part that isn't there, of a number that of its missing byte.
func shorts() []wrong {
	return []wrong{
		{"", api.ErrShort, 0}, {"\x80", api.ErrShort, 1}, {"\xff\xff\xff", api.ErrShort, 3}, {nines, api.ErrShort, 9},
		{"\x01", api.ErrShort, 1}, {"\x40", api.ErrShort, 1}, {"\x01\x80", api.ErrShort, 2}, {"\x01" + nines, api.ErrShort, 10},
		{"\x01\x01", api.ErrShort, 2}, {"\x01\x02a", api.ErrShort, 2}, {"\x01\x20" + long(31), api.ErrShort, 2}, {"\x01\x20", api.ErrShort, 2}, {"\x02\x01b\x01\x02a", api.ErrShort, 5},
		{"\x01\x01a", api.ErrShort, 3}, {"\x01\x01a\x80", api.ErrShort, 4}, {"\x01\x01a" + nines, api.ErrShort, 12}, {"\x02\x01a\x01", api.ErrShort, 4}, {"\x40" + manyBytes(63), api.ErrShort, 379},
	}
}

// wantCursor holds a cursor against its place and its error.
func wantCursor(t *testing.T, s string, c *cursor.Cursor, at int, e api.Errno) {
	t.Helper()
	if c.At() != at || c.Err() != e {
		t.Fatalf("%.60q: at %d with the error %d, not at %d with %d", s, c.At(), c.Err(), at, e)
	}
}

// wantNone holds Take of a cursor with an error against there being nothing, and the cursor against what it was.
func wantNone(t *testing.T, s string, c *cursor.Cursor) {
	t.Helper()
	at, e := c.At(), c.Err()
	for range 2 {
		if v := vcode.Take(c); len(v) != 0 {
			t.Fatalf("%.60q with the error %d: %#v", s, e, v)
		}
		wantCursor(t, s, c, at, e)
	}
}

// wantPen holds a pen against its text (empty beside an error), how much was written, and its error.
func wantPen(t *testing.T, p *pen.Pen, text string, n int, e api.Errno) {
	t.Helper()
	if s, end := p.End(); s != text || end != e || p.Err() != e || p.Len() != n {
		t.Fatalf("the pen has %.60q, %d, %d bytes, not %.60q, %d, %d bytes", s, end, p.Len(), text, e, n)
	}
}

// wantDecoded holds Decode against a vector and an error.
func wantDecoded(t *testing.T, s string, want []api.Entry, e api.Errno) {
	t.Helper()
	if v, got := vcode.Decode(s); !slices.Equal(v, want) || got != e {
		t.Fatalf("of %.60q (%d bytes): %#v, error %d; not %#v, error %d", s, len(s), v, got, want, e)
	}
}

// wantEncoded holds Encode against a text and an error.
func wantEncoded(t *testing.T, v []api.Entry, want string, e api.Errno) {
	t.Helper()
	if s, got := vcode.Encode(v); s != want || got != e {
		t.Fatalf("of %#v: %.60q, error %d; not %.60q, error %d", v, s, got, want, e)
	}
}

// P11.1: Take

func TestTakeAtEachPlaceOfAText(t *testing.T) {
	for _, r := range rights() {
		for _, ahead := range []string{"", "a", "\x00", "\x01\x01z\x01", "\xff\x80"} {
			for _, behind := range []string{"", "\x00", "\x01\x01a\x01", "\x01z\x01", "\xff", "\x80\x00"} {
				s := ahead + r.s + behind
				c := cursor.New(s)
				c.Bytes(len(ahead))
				if v := vcode.Take(c); !slices.Equal(v, r.v) {
					t.Fatalf("%.60q: %#v, not %#v", s, v, r.v)
				}
				wantCursor(t, s, c, len(ahead)+len(r.s), api.OK)
			}
		}
	}
}

func TestTakeOneBehindTheOther(t *testing.T) {
	s := ""
	for _, r := range rights() {
		s += r.s
	}
	c := cursor.New(s)
	for _, r := range rights() {
		from := c.At()
		if v := vcode.Take(c); !slices.Equal(v, r.v) || c.Since(from) != r.s {
			t.Fatalf("%#v of %.60q, not %#v", v, c.Since(from), r.v)
		}
	}
	wantCursor(t, s, c, len(s), api.OK)
	if v := vcode.Take(c); len(v) != 0 {
		t.Fatalf("at the end: %#v", v)
	}
	wantCursor(t, s, c, len(s), api.ErrShort)
	wantNone(t, s, c)
}

// TestTakeKnowsNothingOfTheOneAhead reads a vector whose actor isn't above those of the vector ahead of it.
func TestTakeKnowsNothingOfTheOneAhead(t *testing.T) {
	c := cursor.New("\x01\x01b\x02\x01\x01a\x01\x01\x01a\x01")
	for _, want := range []string{"b2", "a1", "a1"} {
		if v := vcode.Take(c); !slices.Equal(v, vec(want)) {
			t.Fatalf("%#v, not %s", v, want)
		}
	}
	wantCursor(t, "three", c, 12, api.OK)
}

func TestTakeOfEachError(t *testing.T) {
	for _, w := range wrongs() {
		for _, ahead := range []string{"", "a", "\x01\x01z\x01", "\xff\xff"} {
			for _, behind := range []string{"", "\x00", "\x01\x01a\x01", "\xff"} {
				s := ahead + w.s + behind
				c := cursor.New(s)
				c.Bytes(len(ahead))
				if v := vcode.Take(c); len(v) != 0 {
					t.Fatalf("%.60q: %#v", s, v)
				}
				wantCursor(t, s, c, len(ahead)+w.at, w.e)
				wantNone(t, s, c)
			}
		}
	}
}

func TestTakeOfWhatEndsTooEarly(t *testing.T) {
	for _, w := range shorts() {
		for _, ahead := range []string{"", "a", "\x01\x01z\x01", "\xff\xff"} {
			s := ahead + w.s
			c := cursor.New(s)
			c.Bytes(len(ahead))
			if v := vcode.Take(c); len(v) != 0 {
				t.Fatalf("%.60q: %#v", s, v)
			}
			wantCursor(t, s, c, len(ahead)+w.at, w.e)
			wantNone(t, s, c)
		}
	}
}

// TestTakeBehindAVectorThatIsWrong reads right vectors up to the first wrong one: nothing is read behind it.
func TestTakeBehindAVectorThatIsWrong(t *testing.T) {
	for _, w := range wrongs() {
		s := "\x01\x01a\x01\x00" + w.s + "\x01\x01a\x01"
		c := cursor.New(s)
		if v := vcode.Take(c); !slices.Equal(v, vec("a1")) {
			t.Fatalf("%.60q: %#v", s, v)
		}
		if v := vcode.Take(c); len(v) != 0 || c.Err() != api.OK {
			t.Fatalf("%.60q: %#v, error %d", s, v, c.Err())
		}
		vcode.Take(c)
		wantCursor(t, s, c, 5+w.at, w.e)
		wantNone(t, s, c)
	}
}

func TestTakeOfACursorWithAnError(t *testing.T) {
	for _, e := range anyErrors {
		for _, r := range rights() {
			for _, at := range []int{0, len(r.s) / 2, len(r.s)} {
				s := r.s + "\x00"
				c := cursor.New(s)
				c.Bytes(at)
				c.Fail(e)
				wantCursor(t, s, c, at, e)
				wantNone(t, s, c)
			}
		}
	}
}

func TestTakeOfNil(t *testing.T) {
	var c *cursor.Cursor
	wantCursor(t, "nil", c, 0, api.ErrArg)
	wantNone(t, "nil", c)
}

// P11.1: Put

func TestPutOfOne(t *testing.T) {
	for _, r := range rights() {
		for _, room := range []int{len(r.s), len(r.s) + 1, math.MaxInt - 1} {
			p := pen.New(room + 1)
			p.Text("a")
			vcode.Put(p, r.v)
			wantPen(t, p, "a"+r.s, 1+len(r.s), api.OK)
		}
	}
}

func TestPutOfNone(t *testing.T) {
	for _, room := range []int{2, 3, math.MaxInt} {
		p := pen.New(room)
		p.Text("ab")
		vcode.Put(p)
		vcode.Put(p, nil...)
		vcode.Put(p, [][]api.Entry{}...)
		wantPen(t, p, "ab", 2, api.OK)
	}
}

func TestPutOfEmptyOnes(t *testing.T) {
	p := pen.New(4)
	vcode.Put(p, nil)
	wantPen(t, p, "\x00", 1, api.OK)
	vcode.Put(p, []api.Entry{}, nil, make([]api.Entry, 0, 9))
	wantPen(t, p, "\x00\x00\x00\x00", 4, api.OK)
	vcode.Put(p, nil)
	wantPen(t, p, "", 4, api.ErrLimit)
}

func TestPutOfMany(t *testing.T) {
	s := ""
	var l [][]api.Entry
	for _, r := range rights() {
		s += r.s
		l = append(l, r.v)
	}
	p := pen.New(len(s))
	vcode.Put(p, l...)
	wantPen(t, p, s, len(s), api.OK)
	q := pen.New(2 * len(s))
	for _, v := range l {
		vcode.Put(q, v, v)
	}
	if q.Len() != 2*len(s) || q.Err() != api.OK {
		t.Fatalf("%d bytes, error %d", q.Len(), q.Err())
	}
}

// TestPutOfManyThousand is of vectors that don't rise among one another.
func TestPutOfManyThousand(t *testing.T) {
	l := slices.Repeat([][]api.Entry{vec("b1"), nil, vec("a1")}, 20000)
	s := strings.Repeat("\x01\x01b\x01\x00\x01\x01a\x01", 20000)
	p := pen.New(math.MaxInt)
	vcode.Put(p, l...)
	wantPen(t, p, s, len(s), api.OK)
}

// TestPutOfOneThatIsNotRight puts one that isn't right among right ones, at each place: those ahead of it are written, nothing of it, and nothing behind it.
func TestPutOfOneThatIsNotRight(t *testing.T) {
	around := []right{{vec("a1"), "\x01\x01a\x01"}, {nil, "\x00"}, {vec("b300"), "\x01\x01b\xac\x02"}}
	for _, f := range faults() {
		n := 1
		for at := range len(around) + 1 {
			var l [][]api.Entry
			for _, r := range around {
				l = append(l, r.v)
			}
			p := pen.New(100000)
			p.Text("z")
			vcode.Put(p, slices.Insert(l, at, f.v)...)
			wantPen(t, p, "", n, f.e)
			vcode.Put(p, nil, vec("a1"))
			wantPen(t, p, "", n, f.e)
			if at < len(around) {
				n += len(around[at].s)
			}
		}
	}
}

// TestPutOfTwoThatAreNotRight tells the first one's error.
func TestPutOfTwoThatAreNotRight(t *testing.T) {
	for _, f := range faults() {
		for _, g := range faults() {
			p := pen.New(100000)
			vcode.Put(p, vec("a1"), f.v, g.v)
			wantPen(t, p, "", 4, f.e)
		}
	}
}

// TestPutOfOneThatIsNotRightWhereNothingFits tells Check's error, since none of its bytes is tried; but that of an earlier one that doesn't fit.
func TestPutOfOneThatIsNotRightWhereNothingFits(t *testing.T) {
	for _, f := range faults() {
		for _, room := range []int{math.MinInt, -1, 0} {
			p := pen.New(room)
			vcode.Put(p, f.v)
			wantPen(t, p, "", 0, f.e)
		}
		p := pen.New(4)
		vcode.Put(p, vec("a1"), f.v)
		wantPen(t, p, "", 4, f.e)
		for room, n := range []int{0, 1, 2, 3} { // each part of the first one has one byte
			q := pen.New(room)
			vcode.Put(q, vec("a1"), f.v)
			wantPen(t, q, "", n, api.ErrLimit)
		}
	}
}

func TestPutOfAPenWithAnError(t *testing.T) {
	for _, e := range anyErrors {
		p := pen.New(100)
		p.Text("ab")
		p.Fail(e)
		vcode.Put(p)
		vcode.Put(p, nil)
		for _, r := range rights() {
			vcode.Put(p, r.v)
			wantPen(t, p, "", 2, e)
		}
		for _, f := range faults() {
			vcode.Put(p, f.v)
			vcode.Put(p, nil, f.v)
			wantPen(t, p, "", 2, e)
		}
	}
}

func TestPutOfNil(t *testing.T) {
	var p *pen.Pen
	vcode.Put(p)
	vcode.Put(p, nil)
	for _, r := range rights() {
		vcode.Put(p, r.v, r.v)
	}
	for _, f := range faults() {
		vcode.Put(p, f.v)
	}
	wantPen(t, p, "", 0, api.ErrArg)
}

// TestPutAtEachLimit lists by hand how much is written at each limit: a vector whose parts are 1 (count), 1 and 3 (length, actor), 2 (number), 1 and 2, 10 bytes, and one behind it.
func TestPutAtEachLimit(t *testing.T) {
	v := []api.Entry{{Actor: "abc", Count: 300}, {Actor: "bc", Count: most}}
	s := "\x02\x03abc\xac\x02\x02bc" + mostBytes + "\x00"
	for room, n := range []int{0, 1, 2, 2, 2, 5, 5, 7, 8, 8, 10, 10, 10, 10, 10, 10, 10, 10, 10, 10, 20} {
		p := pen.New(1 + room)
		p.Text("z")
		vcode.Put(p, v, nil, vec("a1"))
		wantPen(t, p, "", 1+n, api.ErrLimit)
		vcode.Put(p, nil)
		wantPen(t, p, "", 1+n, api.ErrLimit)
	}
	p := pen.New(21)
	vcode.Put(p, v, nil)
	wantPen(t, p, s, 21, api.OK)
}

// TestPutOfEachRightOneAtEachLimit cuts all right vectors, so that the limit is within each of their parts.
func TestPutOfEachRightOneAtEachLimit(t *testing.T) {
	for _, r := range rights() {
		ends := []int{0, 1} // where parts end
		for _, e := range r.v {
			at := ends[len(ends)-1]
			number := len(plainNumber(e.Count))
			ends = append(ends, at+1, at+1+len(e.Actor), at+1+len(e.Actor)+number)
		}
		for room := range len(r.s) {
			n := 0
			for _, end := range ends {
				if end <= room {
					n = end
				}
			}
			p := pen.New(room)
			vcode.Put(p, r.v)
			wantPen(t, p, "", n, api.ErrLimit)
		}
	}
}

// P11.2: Encode

func TestEncode(t *testing.T) {
	for _, r := range rights() {
		wantEncoded(t, r.v, r.s, api.OK)
	}
}

func TestTheExamples(t *testing.T) {
	wantEncoded(t, vec("a1"), "\x01\x01a\x01", api.OK)
	wantEncoded(t, nil, "\x00", api.OK)
	wantDecoded(t, "\x02\x01b\x01\x01a\x01", nil, api.ErrOrder)
}

func TestEncodeOfWhatIsNotRight(t *testing.T) {
	for _, f := range faults() {
		wantEncoded(t, f.v, "", f.e)
		if e := vector.Check(f.v); e != f.e {
			t.Fatalf("of %#v: Check's error is %d, not %d", f.v, e, f.e)
		}
	}
	wantEncoded(t, make([]api.Entry, 1<<20), "", api.ErrLimit)
	wantEncoded(t, of(long(1<<20)), "", api.ErrLimit)
}

func TestEncodeFindsAFaultAtEachPlace(t *testing.T) {
	for at := range 64 {
		for _, f := range []struct {
			actor string
			count uint64
			e     api.Errno
		}{{long(33), 1, api.ErrLimit}, {"", 1, api.ErrEmpty}, {strconv.Itoa(1000 + at), 0, api.ErrZero}, {strconv.Itoa(1000 + at - 1), 1, api.ErrOrder}} {
			if at == 0 && f.e == api.ErrOrder { // there is none ahead
				continue
			}
			wantEncoded(t, with(many(64), at, api.Entry{Actor: f.actor, Count: f.count}), "", f.e)
		}
	}
}

// P11.2: Decode

func TestDecode(t *testing.T) {
	for _, r := range rights() {
		wantDecoded(t, r.s, r.v, api.OK)
	}
}

func TestDecodeOfEachError(t *testing.T) {
	for _, w := range append(wrongs(), shorts()...) {
		wantDecoded(t, w.s, nil, w.e)
	}
	for _, w := range wrongs() { // ErrTrail comes behind the errors of reading
		wantDecoded(t, w.s+"\x00", nil, w.e)
		wantDecoded(t, w.s+long(100), nil, w.e)
	}
}

func TestDecodeOfEachBeginning(t *testing.T) {
	for _, r := range rights() {
		for n := range len(r.s) {
			wantDecoded(t, r.s[:n], nil, api.ErrShort)
		}
	}
}

func TestDecodeWithOthersBehind(t *testing.T) {
	for _, r := range rights() {
		for b := range 256 {
			wantDecoded(t, r.s+string([]byte{byte(b)}), nil, api.ErrTrail)
		}
		for _, s := range rights() {
			wantDecoded(t, r.s+s.s, nil, api.ErrTrail)
		}
		wantDecoded(t, r.s+long(100000), nil, api.ErrTrail)
	}
}

// TestDecodeFindsAFaultAtEachPlace spoils one entry of 64.
func TestDecodeFindsAFaultAtEachPlace(t *testing.T) {
	for at := range 64 {
		ahead, behind := "\x40"+manyBytes(at), manyBytes(64)[6*(at+1):]
		for _, f := range []struct {
			s string
			e api.Errno
		}{{"\x21" + long(33) + "\x01", api.ErrLimit}, {"\x00\x01", api.ErrEmpty}, {"\x04" + strconv.Itoa(1000+at) + "\x00", api.ErrZero}, {"\x04" + strconv.Itoa(1000+at-1) + "\x01", api.ErrOrder}, {"\x04" + strconv.Itoa(1000+at) + "\x83\x00", api.ErrMinimal}, {"\x04" + strconv.Itoa(1000+at) + nines + "\x02", api.ErrOver}, {"\x84\x00" + strconv.Itoa(1000+at) + "\x03", api.ErrMinimal}} {
			if at == 0 && f.e == api.ErrOrder { // there is none ahead
				continue
			}
			wantDecoded(t, ahead+f.s+behind, nil, f.e)
		}
	}
}

// P11.3

func TestEachRightOneHasATextOfItsOwn(t *testing.T) {
	seen := map[string][]api.Entry{}
	for _, r := range rights() {
		if v, ok := seen[r.s]; ok && !vector.Same(v, r.v) {
			t.Fatalf("%#v and %#v have the same bytes", v, r.v)
		}
		seen[r.s] = r.v
		s, _ := vcode.Encode(r.v)
		v, e := vcode.Decode(s)
		if e != api.OK || !vector.Same(v, r.v) || vector.Check(v) != api.OK {
			t.Fatalf("%#v became %#v, error %d", r.v, v, e)
		}
		again, e := vcode.Encode(v)
		if again != s || e != api.OK {
			t.Fatalf("%.60q became %.60q, error %d", s, again, e)
		}
	}
}

// otherBytes are the bytes into which one of a text is turned: all of them, in long texts those at edges and those beside it.
func otherBytes(b byte, long bool) []byte {
	if long {
		return []byte{0, 1, 32, 33, 64, 65, 127, 128, 129, 255, b - 1, b + 1, b ^ 128}
	}
	var l []byte
	for i := range 256 {
		l = append(l, byte(i))
	}
	return l
}

// TestOneByteThatIsAnother turns each byte of right texts into others: what is read then is another vector, whose bytes those are.
func TestOneByteThatIsAnother(t *testing.T) {
	for _, r := range rights() {
		for at := range len(r.s) {
			for _, b := range otherBytes(r.s[at], len(r.s) > 100) {
				s := r.s[:at] + string([]byte{b}) + r.s[at+1:]
				wantPlain(t, s)
				if v, e := vcode.Decode(s); e == api.OK && s != r.s && vector.Same(v, r.v) {
					t.Fatalf("%.60q and %.60q are both %#v", s, r.s, v)
				}
			}
		}
	}
}

// R4

// inside is a vector in the midst of a longer list, and that list: what is behind it would be told, were it read or written.
func inside(v []api.Entry) ([]api.Entry, []api.Entry) {
	l := append(slices.Clone(v), api.Entry{Actor: "behind", Count: 77}, api.Entry{Actor: "zz", Count: 78})
	return l[:len(v)], l
}

func TestWhatIsHandedInStaysAsItWas(t *testing.T) {
	lists := [][]api.Entry{vec("b1 a2"), many(65), vec("a0"), of("")}
	for _, r := range rights() {
		lists = append(lists, r.v)
	}
	for _, v := range lists {
		a, whole := inside(v)
		was := slices.Clone(whole)
		b, whole2 := inside(vec("b4 c1"))
		l := [][]api.Entry{b, a, b, whole}
		want, e := vcode.Encode(v)
		wantEncoded(t, a, want, e)
		p := pen.New(100000)
		vcode.Put(p, l[:3]...)
		if !slices.Equal(whole, was) || !slices.Equal(whole2, append(vec("b4 c1"), was[len(v):]...)) {
			t.Fatalf("%#v became %#v; %#v", was, whole, whole2)
		}
		if !slices.Equal(l[0], b) || !slices.Equal(l[1], v) || !slices.Equal(l[2], b) || !slices.Equal(l[3], was) {
			t.Fatalf("the list became %#v", l)
		}
		text, _ := p.End()
		spoil(whole)
		spoil(whole2)
		if again, _ := p.End(); again != text {
			t.Fatalf("the pen had %.60q, and has %.60q", text, again)
		}
	}
}

// spoil writes over a list, and over what lies behind it in its memory.
func spoil(v []api.Entry) {
	v = v[:cap(v)]
	for i := range v {
		v[i] = api.Entry{Actor: "spoiled"}
	}
}

func TestWhatIsAnsweredMayBeWrittenOver(t *testing.T) {
	for _, r := range rights() {
		c := cursor.New(r.s + r.s + r.s)
		one, two := vcode.Take(c), vcode.Take(c)
		three, _ := vcode.Decode(r.s)
		spoil(one)
		spoil(three)
		four, _ := vcode.Decode(r.s)
		if !slices.Equal(two, r.v) || !slices.Equal(four, r.v) || !slices.Equal(vcode.Take(c), r.v) {
			t.Fatalf("of %.60q: %#v, %#v", r.s, two, four)
		}
		wantCursor(t, r.s, c, 3*len(r.s), api.OK)
	}
}

// TestTheSameAnswerEachTime asks the same many times.
func TestTheSameAnswerEachTime(t *testing.T) {
	for range 100 {
		wantEncoded(t, greatest(), greatestBytes(), api.OK)
		wantDecoded(t, greatestBytes(), greatest(), api.OK)
		wantDecoded(t, "\x01\x01a\x00", nil, api.ErrZero)
	}
}
