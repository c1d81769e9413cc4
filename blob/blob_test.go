package blob_test

import (
	"math"
	"slices"
	"strings"
	"testing"

	"spence/api"
	"spence/blob"
	"spence/cursor"
	"spence/pen"
)

// anyLimits are limits of any number: the least, those below 0, 0, the ordinary ones, those that are small in their low bits alone, and the greatest.
var anyLimits = []int{
	math.MinInt, math.MinInt + 1, -1 << 32, -300, -128, -2, -1, 0, 1, 2, 3, 127, 128, 129, 255, 256, 65536,
	1<<32 - 1, 1 << 32, 1<<32 + 1, 1 << 62, math.MaxInt - 1, math.MaxInt,
}

// below0 are limits that count as 0.
var below0 = []int{math.MinInt, math.MinInt + 1, -1 << 32, -128, -2, -1}

// anyErrors are errors that a cursor, or a pen, may have, those that aren't named too.
var anyErrors = []api.Errno{api.ErrArg, api.ErrShort, api.ErrLimit, api.ErrFlag, api.ErrForm, -1, 19, math.MaxInt, math.MinInt}

// anyTexts are texts of any bytes.
func anyTexts() []string {
	return []string{
		"", "\x00", "\x01", "\x02", "\x03ab", "\x03abc", "\x03abcd", "\x7f", "\x80", "\x80\x00", "\x80\x01", "\xff", "\xff\xff\xff\xff\x0f", "abc",
		"\x80\x80\x80\x80\x10", ints["greatest"], ints["above"], ints["most"], strings.Repeat("\xff", 9) + "\x02", strings.Repeat("\x80", 40), strings.Repeat("\xfe\x00", 100),
	}
}

// ints are the bytes of numbers at an int's edge: the greatest one, the next one above it, and the greatest number of all.
var ints = map[string]string{
	"greatest": "\xff\xff\xff\xff\xff\xff\xff\xff\x7f",
	"above":    "\x80\x80\x80\x80\x80\x80\x80\x80\x80\x01",
	"most":     "\xff\xff\xff\xff\xff\xff\xff\xff\xff\x01",
}

// long is a text of n bytes that are not all the same.
func long(n int) string {
	return strings.Repeat("0123456789\x00\xff\x80", n/13+1)[:n]
}

// rights are texts, and the bytes that their lengths have ahead of them.
var rights = []struct{ s, ahead string }{
	{"", "\x00"}, {"a", "\x01"}, {"\x00", "\x01"}, {"\xff\x80", "\x02"}, {"abc", "\x03"}, {long(126), "\x7e"}, {long(127), "\x7f"},
	{long(128), "\x80\x01"}, {long(129), "\x81\x01"}, {long(300), "\xac\x02"}, {long(16383), "\xff\x7f"}, {long(16384), "\x80\x80\x01"}, {long(32768), "\x80\x80\x02"},
}

// counts are numbers, and their bytes.
var counts = []struct {
	n int
	s string
}{
	{0, "\x00"}, {1, "\x01"}, {2, "\x02"}, {126, "\x7e"}, {127, "\x7f"}, {128, "\x80\x01"}, {129, "\x81\x01"}, {300, "\xac\x02"}, {65536, "\x80\x80\x04"},
	{1<<32 - 1, "\xff\xff\xff\xff\x0f"}, {1 << 32, "\x80\x80\x80\x80\x10"}, {math.MaxInt - 1, "\xfe" + ints["greatest"][1:]}, {math.MaxInt, ints["greatest"]},
}

// noNumbers are texts that begin with no number: the error, and the place behind it.
var noNumbers = []struct {
	s  string
	e  api.Errno
	at int
}{
	{"", api.ErrShort, 0}, {"\x80", api.ErrShort, 1}, {"\xff\xff\xff", api.ErrShort, 3}, {strings.Repeat("\x80", 9), api.ErrShort, 9},
	{"\x80\x00", api.ErrMinimal, 1}, {"\x83\x00abc", api.ErrMinimal, 1}, {"\xff\x80\x00\x01", api.ErrMinimal, 2}, {strings.Repeat("\x80", 9) + "\x00", api.ErrMinimal, 9},
	{strings.Repeat("\x80", 9) + "\x02", api.ErrOver, 9}, {strings.Repeat("\xff", 12), api.ErrOver, 9}, {strings.Repeat("\x80", 10), api.ErrOver, 9},
}

// wantCursor holds a cursor against its place and its error.
func wantCursor(t *testing.T, s string, c *cursor.Cursor, at int, e api.Errno) {
	t.Helper()
	if c.At() != at || c.Err() != e {
		t.Errorf("%.40q: at %d with the error %d, not at %d with %d", s, c.At(), c.Err(), at, e)
	}
}

// wantPen holds a pen against its text (empty beside an error), how much was written, and its error.
func wantPen(t *testing.T, p *pen.Pen, text string, n int, e api.Errno) {
	t.Helper()
	if s, end := p.End(); s != text || end != e || p.Err() != e || p.Len() != n {
		t.Errorf("the pen has %.40q, %d, %d bytes, not %.40q, %d, %d bytes", s, end, p.Len(), text, e, n)
	}
}

// wantNothing holds all readings of a cursor with an error against what they answer, and the cursor against what it was.
func wantNothing(t *testing.T, s string, c *cursor.Cursor) {
	t.Helper()
	at, e := c.At(), c.Err()
	for _, max := range anyLimits {
		if got := blob.Take(c, max); got != "" {
			t.Errorf("Take of %.40q with the error %d: %.40q", s, e, got)
		}
		if n := blob.Count(c, max); n != 0 {
			t.Errorf("Count of %.40q with the error %d: %d", s, e, n)
		}
		if blob.Flag(c) {
			t.Errorf("Flag of %.40q with the error %d: true", s, e)
		}
		wantCursor(t, s, c, at, e)
	}
}

// P6.1: Take

func TestTakeOfJustTheLimitAndBelowIt(t *testing.T) {
	for _, r := range rights {
		for _, ahead := range []string{"", "a", "\x80\xff"} {
			for _, behind := range []string{"", "\x00", "\xffb"} {
				for _, max := range []int{len(r.s), len(r.s) + 1, 32769, math.MaxInt} {
					s := ahead + r.ahead + r.s + behind
					c := cursor.New(s)
					c.Bytes(len(ahead))
					if got := blob.Take(c, max); got != r.s {
						t.Errorf("%.40q, limit %d: %.40q, not %.40q", s, max, got, r.s)
					}
					wantCursor(t, s, c, len(s)-len(behind), api.OK)
				}
			}
		}
	}
}

func TestTakeAboveTheLimit(t *testing.T) {
	for _, r := range rights[1:] {
		for _, max := range []int{len(r.s) - 1, 0, -1, math.MinInt} {
			for _, s := range []string{r.ahead + r.s, r.ahead + r.s + "b", r.ahead} {
				c := cursor.New("a" + s)
				c.Byte()
				if got := blob.Take(c, max); got != "" {
					t.Errorf("%.40q, limit %d: %.40q", s, max, got)
				}
				wantCursor(t, s, c, 1+len(r.ahead), api.ErrLimit)
				wantNothing(t, s, c)
			}
		}
	}
}

func TestTakeOfTheEmptyBlob(t *testing.T) {
	for _, max := range anyLimits {
		for _, s := range []string{"\x00", "\x00\x00", "\x00abc"} {
			c := cursor.New(s)
			if got := blob.Take(c, max); got != "" {
				t.Errorf("%q, limit %d: %q", s, max, got)
			}
			wantCursor(t, s, c, 1, api.OK)
		}
	}
}

func TestTakeWithALimitBelow0(t *testing.T) {
	for _, max := range below0 {
		c := cursor.New("\x01a")
		if got := blob.Take(c, max); got != "" {
			t.Errorf("limit %d: %q", max, got)
		}
		wantCursor(t, "\x01a", c, 1, api.ErrLimit)
	}
}

func TestTakeWhereTooFewAreLeft(t *testing.T) {
	for _, r := range rights[1:] {
		for _, left := range []int{0, len(r.s) / 2, len(r.s) - 1} {
			s := "a" + r.ahead + r.s[:left]
			c := cursor.New(s)
			c.Byte()
			if got := blob.Take(c, len(r.s)); got != "" {
				t.Errorf("%.40q: %.40q", s, got)
			}
			wantCursor(t, s, c, 1+len(r.ahead), api.ErrShort)
			wantNothing(t, s, c)
		}
	}
}

func TestTakeOfLengthsAtAnIntsEdge(t *testing.T) {
	for _, x := range []struct {
		s   string
		max int
		e   api.Errno
	}{
		{ints["greatest"], math.MaxInt, api.ErrShort}, {ints["greatest"], math.MaxInt - 1, api.ErrLimit}, {ints["greatest"], -1, api.ErrLimit},
		{ints["above"], math.MaxInt, api.ErrLimit}, {ints["above"], 0, api.ErrLimit}, {ints["above"], math.MinInt, api.ErrLimit},
		{ints["most"], math.MaxInt, api.ErrLimit}, {ints["most"], 0, api.ErrLimit}, {ints["most"], -1, api.ErrLimit}, {ints["most"], math.MinInt, api.ErrLimit},
	} {
		c := cursor.New(x.s + "abc")
		if got := blob.Take(c, x.max); got != "" {
			t.Errorf("%q, limit %d: %q", x.s, x.max, got)
		}
		wantCursor(t, x.s, c, len(x.s), x.e)
	}
}

func TestTakeOneByOne(t *testing.T) {
	s := ""
	for _, r := range rights {
		s += r.ahead + r.s
	}
	c := cursor.New(s)
	for _, r := range rights {
		if got := blob.Take(c, 32768); got != r.s {
			t.Errorf("%.40q, not %.40q", got, r.s)
		}
	}
	wantCursor(t, s, c, len(s), api.OK)
	if got := blob.Take(c, 32768); got != "" {
		t.Errorf("at the end: %.40q", got)
	}
	wantCursor(t, s, c, len(s), api.ErrShort)
}

// P6.1: Count

func TestCountOfJustTheLimitAndBelowIt(t *testing.T) {
	for _, x := range counts {
		for _, behind := range []string{"", "\x00", "\xffb"} {
			limits := []int{x.n, math.MaxInt}
			if x.n < math.MaxInt {
				limits = append(limits, x.n+1)
			}
			for _, max := range limits {
				s := "a" + x.s + behind
				c := cursor.New(s)
				c.Byte()
				if n := blob.Count(c, max); n != x.n {
					t.Errorf("%q, limit %d: %d, not %d", s, max, n, x.n)
				}
				wantCursor(t, s, c, 1+len(x.s), api.OK)
			}
		}
	}
}

func TestCountAboveTheLimit(t *testing.T) {
	for _, x := range counts[1:] {
		for _, max := range []int{x.n - 1, 0, -1, -x.n, math.MinInt} {
			s := "a" + x.s + "\x00"
			c := cursor.New(s)
			c.Byte()
			if n := blob.Count(c, max); n != 0 {
				t.Errorf("%q, limit %d: %d", s, max, n)
			}
			wantCursor(t, s, c, 1+len(x.s), api.ErrLimit)
			wantNothing(t, s, c)
		}
	}
}

func TestCountOf0(t *testing.T) {
	for _, max := range anyLimits {
		c := cursor.New("\x00\x01")
		if n := blob.Count(c, max); n != 0 {
			t.Errorf("limit %d: %d", max, n)
		}
		wantCursor(t, "\x00\x01", c, 1, api.OK)
	}
}

func TestCountOfNumbersBeyondAnInt(t *testing.T) {
	for _, s := range []string{ints["above"], "\x81" + ints["above"][1:], ints["most"]} {
		for _, max := range anyLimits {
			c := cursor.New(s)
			if n := blob.Count(c, max); n != 0 {
				t.Errorf("%q, limit %d: %d", s, max, n)
			}
			wantCursor(t, s, c, 10, api.ErrLimit)
		}
	}
}

// TestTakeAndCountOfWhatIsNoNumber is at all limits, since layer 3's errors come ahead of ErrLimit.
func TestTakeAndCountOfWhatIsNoNumber(t *testing.T) {
	for _, w := range noNumbers {
		for _, max := range anyLimits {
			for _, ahead := range []string{"", "a", "\xff\xff"} {
				s := ahead + w.s
				c, d := cursor.New(s), cursor.New(s)
				c.Bytes(len(ahead))
				d.Bytes(len(ahead))
				if got := blob.Take(c, max); got != "" {
					t.Errorf("Take of %q, limit %d: %q", s, max, got)
				}
				wantCursor(t, s, c, len(ahead)+w.at, w.e)
				if n := blob.Count(d, max); n != 0 {
					t.Errorf("Count of %q, limit %d: %d", s, max, n)
				}
				wantCursor(t, s, d, len(ahead)+w.at, w.e)
			}
		}
	}
}

// P6.1: Flag

func TestFlag(t *testing.T) {
	for b := range 256 {
		for _, behind := range []string{"", "\x01", "\x00", "\xff"} {
			s := "a" + string([]byte{byte(b)}) + behind
			c := cursor.New(s)
			c.Byte()
			if got := blob.Flag(c); got != (b == 1) {
				t.Errorf("%q: %t", s, got)
			}
			if b > 1 {
				wantCursor(t, s, c, 2, api.ErrFlag)
				wantNothing(t, s, c)
			} else {
				wantCursor(t, s, c, 2, api.OK)
			}
		}
	}
}

func TestFlagWhereNoByteIsLeft(t *testing.T) {
	for _, s := range []string{"", "\x01", "a\x01\x01"} {
		c := cursor.New(s)
		c.Bytes(len(s))
		if blob.Flag(c) {
			t.Errorf("%q: true", s)
		}
		wantCursor(t, s, c, len(s), api.ErrShort)
		wantNothing(t, s, c)
	}
}

func TestFlagsOneByOne(t *testing.T) {
	c := cursor.New("\x01\x00\x01\x01\x02\x01")
	for i, want := range []bool{true, false, true, true, false, false} {
		if got := blob.Flag(c); got != want {
			t.Errorf("%d: %t", i, got)
		}
	}
	wantCursor(t, "flags", c, 5, api.ErrFlag)
}

// P6.1: all readings

func TestReadingsAtACursorWithAnError(t *testing.T) {
	for _, e := range anyErrors {
		for _, s := range anyTexts() {
			for _, at := range []int{0, len(s) / 2, len(s)} {
				c := cursor.New(s)
				c.Bytes(at)
				c.Fail(e)
				wantCursor(t, s, c, at, e)
				wantNothing(t, s, c)
			}
		}
	}
}

func TestReadingsAtNil(t *testing.T) {
	var c *cursor.Cursor
	wantCursor(t, "nil", c, 0, api.ErrArg)
	wantNothing(t, "nil", c)
}

// P6.2: Put

func TestPutOfOneText(t *testing.T) {
	for _, r := range rights {
		for _, max := range []int{len(r.s), len(r.s) + 1, math.MaxInt} {
			s := r.ahead + r.s
			p := pen.New(len(s))
			blob.Put(p, max, r.s)
			wantPen(t, p, s, len(s), api.OK)
		}
	}
}

func TestPutOfNoText(t *testing.T) {
	for _, max := range anyLimits {
		p := pen.New(2)
		p.Text("ab")
		blob.Put(p, max)
		blob.Put(p, max, nil...)
		blob.Put(p, max, []string{}...)
		wantPen(t, p, "ab", 2, api.OK)
	}
}

func TestPutOfEmptyTexts(t *testing.T) {
	for _, max := range anyLimits {
		p := pen.New(3)
		blob.Put(p, max, "")
		wantPen(t, p, "\x00", 1, api.OK)
		blob.Put(p, max, "", "")
		wantPen(t, p, "\x00\x00\x00", 3, api.OK)
		blob.Put(p, max, "")
		wantPen(t, p, "", 3, api.ErrLimit)
	}
}

func TestPutOfMany(t *testing.T) {
	p := pen.New(100000)
	p.Text("a")
	blob.Put(p, 3, "", "abc", "", "\x00", "ab", "")
	s := "a\x00\x03abc\x00\x01\x00\x02ab\x00"
	wantPen(t, p, s, len(s), api.OK)
	var l []string
	for _, r := range rights {
		l = append(l, r.s)
		s += r.ahead + r.s
	}
	blob.Put(p, 32768, l...)
	wantPen(t, p, s, len(s), api.OK)
}

func TestPutOfOneThatIsLongerThanTheLimit(t *testing.T) {
	for _, r := range rights[1:] {
		for _, max := range []int{len(r.s) - 1, 0, -1, -len(r.s), math.MinInt} {
			p := pen.New(100000)
			blob.Put(p, max, r.s)
			wantPen(t, p, "", 0, api.ErrLimit)
			q := pen.New(100000)
			q.Text("ab")
			blob.Put(q, max, "", "", r.s, "")
			wantPen(t, q, "", 4, api.ErrLimit)
			blob.Put(q, max, "")
			wantPen(t, q, "", 4, api.ErrLimit)
		}
	}
	for _, max := range below0 {
		p := pen.New(9)
		blob.Put(p, max, "", "a")
		wantPen(t, p, "", 1, api.ErrLimit)
	}
}

// TestPutOfOneThatDoesNotFitThePen is at all places where a pen may end: within the number nothing is written, within the bytes the number alone.
func TestPutOfOneThatDoesNotFitThePen(t *testing.T) {
	for _, r := range rights[1:11] {
		for room := range len(r.ahead + r.s) {
			want := 3
			if room >= len(r.ahead) {
				want += len(r.ahead)
			}
			p := pen.New(3 + room)
			blob.Put(p, 16384, "ab", r.s, "", "c")
			wantPen(t, p, "", want, api.ErrLimit)
			blob.Put(p, 16384, "")
			wantPen(t, p, "", want, api.ErrLimit)
		}
	}
}

func TestPutWhereNothingFits(t *testing.T) {
	for _, max := range []int{math.MinInt, -1, 0} {
		p := pen.New(max)
		blob.Put(p, math.MaxInt, "")
		wantPen(t, p, "", 0, api.ErrLimit)
		p = pen.New(max)
		blob.Put(p, math.MaxInt, "abc", "")
		wantPen(t, p, "", 0, api.ErrLimit)
	}
}

func TestPutKeepsNoArgument(t *testing.T) {
	l := []string{"a", "bc", "behind"}
	p := pen.New(20)
	blob.Put(p, 2, l[:2]...)
	if !slices.Equal(l, []string{"a", "bc", "behind"}) {
		t.Errorf("the texts became %q", l)
	}
	l[0], l[1] = "x", "yz"
	wantPen(t, p, "\x01a\x02bc", 5, api.OK)
}

// P6.2: PutCount

func TestPutCount(t *testing.T) {
	for _, x := range counts {
		for _, max := range []int{x.n, math.MaxInt} {
			p := pen.New(1 + len(x.s))
			p.Text("a")
			blob.PutCount(p, max, x.n)
			wantPen(t, p, "a"+x.s, 1+len(x.s), api.OK)
		}
		for room := range len(x.s) {
			p := pen.New(1 + room)
			p.Text("a")
			blob.PutCount(p, x.n, x.n)
			wantPen(t, p, "", 1, api.ErrLimit)
		}
	}
}

func TestPutCountAboveTheLimit(t *testing.T) {
	for _, x := range counts[1:] {
		for _, max := range []int{x.n - 1, 0, -1, -x.n, math.MinInt} {
			p := pen.New(20)
			p.Text("a")
			blob.PutCount(p, max, x.n)
			wantPen(t, p, "", 1, api.ErrLimit)
		}
	}
}

func TestPutCountOf0(t *testing.T) {
	for _, max := range anyLimits {
		p := pen.New(1)
		blob.PutCount(p, max, 0)
		wantPen(t, p, "\x00", 1, api.OK)
	}
}

// TestPutCountBelow0 is with all limits, those below the number too, and at full pens: ErrArg comes ahead of ErrLimit.
func TestPutCountBelow0(t *testing.T) {
	for _, n := range []int{-1, -2, -128, -1 << 32, math.MinInt + 1, math.MinInt} {
		for _, max := range anyLimits {
			for _, room := range []int{0, 1, 20} {
				p := pen.New(1 + room)
				p.Text("a")
				blob.PutCount(p, max, n)
				wantPen(t, p, "", 1, api.ErrArg)
			}
		}
	}
}

// P6.2: PutFlag

func TestPutFlag(t *testing.T) {
	p := pen.New(4)
	for _, b := range []bool{true, false, false, true} {
		blob.PutFlag(p, b)
	}
	wantPen(t, p, "\x01\x00\x00\x01", 4, api.OK)
	for _, b := range []bool{true, false} {
		q := pen.New(1)
		q.Text("a")
		blob.PutFlag(q, b)
		wantPen(t, q, "", 1, api.ErrLimit)
	}
}

// P6.2: all writings

// writeAll asks for all writings: right ones, and those that have an error.
func writeAll(p *pen.Pen) {
	for _, max := range anyLimits {
		blob.Put(p, max)
		blob.Put(p, max, "")
		blob.Put(p, max, "a", "", "bc")
		for _, n := range []int{math.MinInt, -1, 0, 1, 128, math.MaxInt} {
			blob.PutCount(p, max, n)
		}
	}
	blob.PutFlag(p, true)
	blob.PutFlag(p, false)
}

func TestWritingsAtAPenWithAnError(t *testing.T) {
	for _, e := range anyErrors {
		for _, room := range []int{0, 1, 1000} {
			p := pen.New(2 + room)
			p.Text("ab")
			p.Fail(e)
			writeAll(p)
			wantPen(t, p, "", 2, e)
		}
	}
}

func TestWritingsAtNil(t *testing.T) {
	var p *pen.Pen
	writeAll(p)
	wantPen(t, p, "", 0, api.ErrArg)
}

// TestTheFirstOfTwoErrorsStays is of writings one behind the other.
func TestTheFirstOfTwoErrorsStays(t *testing.T) {
	p := pen.New(9)
	blob.PutCount(p, 5, -1)
	blob.PutCount(p, 5, 6)
	blob.Put(p, 0, "a")
	wantPen(t, p, "", 0, api.ErrArg)
	q := pen.New(9)
	blob.PutCount(q, 5, 6)
	blob.PutCount(q, 5, -1)
	wantPen(t, q, "", 0, api.ErrLimit)
	c := cursor.New("\x02\x80\x00")
	blob.Flag(c)
	blob.Count(c, 0)
	blob.Take(c, 0)
	wantCursor(t, "\x02\x80\x00", c, 1, api.ErrFlag)
}

func TestWhatIsWrittenIsReadAgain(t *testing.T) {
	p := pen.New(1000000)
	for _, r := range rights {
		for _, x := range counts {
			blob.Put(p, len(r.s), r.s, "")
			blob.PutCount(p, x.n, x.n)
			blob.PutFlag(p, x.n%2 == 0)
		}
	}
	s, e := p.End()
	if e != api.OK {
		t.Fatal(e)
	}
	c := cursor.New(s)
	for _, r := range rights {
		for _, x := range counts {
			if got, empty := blob.Take(c, len(r.s)), blob.Take(c, -1); got != r.s || empty != "" {
				t.Fatalf("%.40q, %.40q, not %.40q and the empty text", got, empty, r.s)
			}
			if n, b := blob.Count(c, x.n), blob.Flag(c); n != x.n || b != (x.n%2 == 0) {
				t.Fatalf("%d, %t, not %d", n, b, x.n)
			}
		}
	}
	wantCursor(t, "all", c, len(s), api.OK)
}

// P6.3

func TestRising(t *testing.T) {
	for _, x := range []struct {
		l    []string
		want int
	}{
		{nil, -1}, {[]string{}, -1}, {[]string{""}, -1}, {[]string{"a"}, -1}, {[]string{"\xff"}, -1},
		{[]string{"a", "a"}, 1}, {[]string{"", ""}, 1}, {[]string{"\x00", "\x00"}, 1}, {[]string{"a", "ab", "ab"}, 2}, {[]string{long(300), long(300)}, 1},
		{[]string{"", "a"}, -1}, {[]string{"a", ""}, 1}, {[]string{"", "\x00"}, -1}, {[]string{"\x00", ""}, 1}, {[]string{"a", "a\x00"}, -1}, {[]string{"a\x00", "a"}, 1},
		{[]string{"ab", "abc"}, -1}, {[]string{"abc", "ab"}, 1}, {[]string{"", "a", "aa", "b"}, -1}, {[]string{"b", "ab"}, 1}, {[]string{"ab", "b"}, -1},
		{[]string{"abc", "bbc"}, -1}, {[]string{"bbc", "abc"}, 1}, {[]string{"abc", "acc"}, -1}, {[]string{"acc", "abc"}, 1}, {[]string{"abc", "abd"}, -1}, {[]string{"abd", "abc"}, 1},
		{[]string{"azz", "b"}, -1}, {[]string{"b", "azz"}, 1}, {[]string{"aaz", "aba"}, -1}, {[]string{"aba", "aaz"}, 1},
		{[]string{"\x7f", "\x80"}, -1}, {[]string{"\x80", "\x7f"}, 1}, {[]string{"\x80", "\xff"}, -1}, {[]string{"\xff", "\x80"}, 1}, {[]string{"\x00", "\x7f", "\x80", "\xff"}, -1},
		{[]string{"a\xff", "b\x00"}, -1}, {[]string{"\xff\x00", "\xff\xff"}, -1}, {[]string{"\xff\xff", "\xff\x00"}, 1}, {[]string{"\xc3\xa9", "z"}, 1}, {[]string{"\xef\xbf\xbd", "\xf0"}, -1},
		{[]string{"a", "b", "c", "d", "d"}, 4}, {[]string{"a", "b", "a", "c", "b"}, 2}, {[]string{"b", "a", "a", ""}, 1}, {[]string{"a", "c", "c", "b", "b"}, 2}, {[]string{"a", "c", "b", "d"}, 2},
		{[]string{"10", "9"}, -1}, {[]string{"9", "10"}, 1}, {[]string{"A", "a"}, -1}, {[]string{"a", "A"}, 1},
	} {
		if got := blob.Rising(x.l...); got != x.want {
			t.Errorf("%q: %d, not %d", x.l, got, x.want)
		}
	}
}

func TestRisingOfLongRows(t *testing.T) {
	var l []string
	for i := range 256 * 256 {
		l = append(l, string([]byte{byte(i / 256), byte(i)}))
	}
	if got := blob.Rising(l...); got != -1 {
		t.Errorf("%d, not -1", got)
	}
	for _, i := range []int{1, 2, 255, 256, 32768, len(l) - 1} {
		was := l[i]
		l[i] = l[i-1]
		if got := blob.Rising(l...); got != i {
			t.Errorf("%d, not %d", got, i)
		}
		l[i] = was
	}
}

func TestRisingChangesNoArgument(t *testing.T) {
	l := []string{"b", "a", "c", "behind"}
	if got := blob.Rising(l[:1]...); got != -1 {
		t.Errorf("what lies behind the list is looked at: %d", got)
	}
	if got := blob.Rising(l[:3]...); got != 1 || !slices.Equal(l, []string{"b", "a", "c", "behind"}) {
		t.Errorf("%d, and the texts became %q", got, l)
	}
}
