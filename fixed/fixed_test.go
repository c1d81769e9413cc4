package fixed_test

import (
	"math"
	"strings"
	"testing"

	"spence/api"
	"spence/cursor"
	"spence/fixed"
	"spence/pen"
)

// widths are all that there are.
var widths = []int{1, 2, 4, 8}

// noWidths are some of all the others: those between and beside the widths, those below 0, those that are a width in their low bits alone, and the least and the greatest number.
var noWidths = []int{
	math.MinInt, math.MinInt + 1, -1 << 32, -256, -8, -4, -2, -1, 0, 3, 5, 6, 7, 9, 10, 12, 15, 16, 17, 32, 64,
	255, 256, 257, 258, 260, 264, 1<<16 + 2, 1<<32 + 1, 1<<32 + 8, 1 << 62, math.MaxInt - 1, math.MaxInt,
}

// anyWidths are those that are one, and those that are none.
func anyWidths() []int { return append(append([]int{}, noWidths...), widths...) }

// right is a number of a width, and its bytes.
type right struct {
	width int
	n     uint64
	s     string
}

func rights() []right {
	return []right{
		{1, 0, "\x00"}, {1, 1, "\x01"}, {1, 127, "\x7f"}, {1, 128, "\x80"}, {1, 254, "\xfe"}, {1, 255, "\xff"},
		{2, 0, "\x00\x00"}, {2, 1, "\x00\x01"}, {2, 255, "\x00\xff"}, {2, 256, "\x01\x00"}, {2, 258, "\x01\x02"},
		{2, 32768, "\x80\x00"}, {2, 65534, "\xff\xfe"}, {2, 65535, "\xff\xff"},
		{4, 0, "\x00\x00\x00\x00"}, {4, 1, "\x00\x00\x00\x01"}, {4, 255, "\x00\x00\x00\xff"}, {4, 65535, "\x00\x00\xff\xff"},
		{4, 65536, "\x00\x01\x00\x00"}, {4, 1 << 24, "\x01\x00\x00\x00"}, {4, 0x01020304, "\x01\x02\x03\x04"},
		{4, 1 << 31, "\x80\x00\x00\x00"}, {4, 1<<32 - 2, "\xff\xff\xff\xfe"}, {4, 1<<32 - 1, "\xff\xff\xff\xff"},
		{8, 0, "\x00\x00\x00\x00\x00\x00\x00\x00"}, {8, 1, "\x00\x00\x00\x00\x00\x00\x00\x01"}, {8, 1<<32 - 1, "\x00\x00\x00\x00\xff\xff\xff\xff"},
		{8, 1 << 32, "\x00\x00\x00\x01\x00\x00\x00\x00"}, {8, 1 << 56, "\x01\x00\x00\x00\x00\x00\x00\x00"}, {8, 0x0102030405060708, "\x01\x02\x03\x04\x05\x06\x07\x08"},
		{8, 0xfffefdfcfbfaf9f8, "\xff\xfe\xfd\xfc\xfb\xfa\xf9\xf8"}, {8, math.MaxInt64, "\x7f\xff\xff\xff\xff\xff\xff\xff"}, {8, 1 << 63, "\x80\x00\x00\x00\x00\x00\x00\x00"},
		{8, math.MaxUint64 - 1, "\xff\xff\xff\xff\xff\xff\xff\xfe"}, {8, math.MaxUint64, "\xff\xff\xff\xff\xff\xff\xff\xff"},
	}
}

// over is a number that doesn't fit a width.
type over struct {
	width int
	n     uint64
}

func overs() []over {
	return []over{
		{1, 256}, {1, 257}, {1, 65535}, {1, 65536}, {1, 1 << 32}, {1, 1 << 63}, {1, math.MaxUint64 - 255}, {1, math.MaxUint64},
		{2, 65536}, {2, 65537}, {2, 1<<32 - 1}, {2, 1 << 32}, {2, 1 << 63}, {2, math.MaxUint64 - 65535}, {2, math.MaxUint64},
		{4, 1 << 32}, {4, 1<<32 + 1}, {4, 1 << 40}, {4, 1 << 63}, {4, math.MaxUint64 - 1<<32 + 1}, {4, math.MaxUint64},
	}
}

// texts are texts of any bytes, from the empty one to those longer than all widths.
func texts() []string {
	return []string{"", "\x00", "a", "\xff\xff", "abc", "\x00\x00\x00\x00", "\x80\xff\x00\x01\x7f", "abcdefg", "abcdefgh", "\xff\xff\xff\xff\xff\xff\xff\xff\xff", strings.Repeat("\xfe\x00", 100)}
}

// wantCursor holds a cursor against its place and its error.
func wantCursor(t *testing.T, s string, c *cursor.Cursor, at int, e api.Errno) {
	t.Helper()
	if c.At() != at || c.Err() != e {
		t.Errorf("%q: at %d with the error %d, not at %d with %d", s, c.At(), c.Err(), at, e)
	}
}

// wantPen holds a pen against its text (empty beside an error), how much was written, and its error.
func wantPen(t *testing.T, p *pen.Pen, text string, n int, e api.Errno) {
	t.Helper()
	if s, end := p.End(); s != text || end != e || p.Err() != e || p.Len() != n {
		t.Errorf("the pen has %q, %d, %d bytes, not %q, %d, %d bytes", s, end, p.Len(), text, e, n)
	}
}

// P4.1: Take

func TestTake(t *testing.T) {
	for _, r := range rights() {
		for _, ahead := range []string{"", "a", "\xff\xff\xff"} {
			for _, behind := range []string{"", "\x00", "\xff", "behind it"} {
				s := ahead + r.s + behind
				c := cursor.New(s)
				c.Bytes(len(ahead))
				if n := fixed.Take(c, r.width); n != r.n {
					t.Errorf("%q, width %d: %d, not %d", s, r.width, n, r.n)
				}
				wantCursor(t, s, c, len(ahead+r.s), api.OK)
			}
		}
	}
}

func TestTakeOneByOne(t *testing.T) {
	s := ""
	for _, r := range rights() {
		s += r.s
	}
	c := cursor.New(s)
	for _, r := range rights() {
		if n := fixed.Take(c, r.width); n != r.n {
			t.Errorf("width %d: %d, not %d", r.width, n, r.n)
		}
	}
	wantCursor(t, s, c, len(s), api.OK)
	if n := fixed.Take(c, 1); n != 0 {
		t.Errorf("at the end: %d", n)
	}
	wantCursor(t, s, c, len(s), api.ErrShort)
}

func TestTakeWhereTooFewAreLeft(t *testing.T) {
	for _, width := range widths {
		for left := range width {
			for _, ahead := range []string{"", "a", "\xff\xff\xff\xff\xff\xff\xff\xff"} {
				s := ahead + strings.Repeat("\xff", left)
				c := cursor.New(s)
				c.Bytes(len(ahead))
				for range 2 { // the second one is at a cursor with an error
					if n := fixed.Take(c, width); n != 0 {
						t.Errorf("%q, width %d: %d", s, width, n)
					}
					wantCursor(t, s, c, len(ahead), api.ErrShort)
				}
			}
		}
	}
}

func TestTakeOfAWidthThatIsNone(t *testing.T) {
	for _, width := range noWidths {
		for _, s := range texts() {
			c := cursor.New("a" + s)
			c.Byte()
			if n := fixed.Take(c, width); n != 0 {
				t.Errorf("%q, width %d: %d", s, width, n)
			}
			wantCursor(t, "a"+s, c, 1, api.ErrArg)
			if n := fixed.Take(c, 1); n != 0 {
				t.Errorf("%q, behind the error: %d", s, n)
			}
			wantCursor(t, "a"+s, c, 1, api.ErrArg)
		}
	}
}

func TestTakeAtACursorWithAnError(t *testing.T) {
	for _, e := range []api.Errno{api.ErrTrail, api.ErrSum, -1, math.MaxInt} {
		for _, width := range anyWidths() {
			for _, s := range texts() {
				c := cursor.New("a" + s)
				c.Byte()
				c.Fail(e)
				if n := fixed.Take(c, width); n != 0 {
					t.Errorf("%q, width %d: %d", s, width, n)
				}
				wantCursor(t, "a"+s, c, 1, e)
			}
		}
	}
}

func TestTakeAtNil(t *testing.T) {
	for _, width := range anyWidths() {
		var c *cursor.Cursor
		if n := fixed.Take(c, width); n != 0 {
			t.Errorf("width %d: %d", width, n)
		}
		wantCursor(t, "nil", c, 0, api.ErrArg)
	}
}

// P4.1: Put

func TestPut(t *testing.T) {
	for _, r := range rights() {
		p := pen.New(len(r.s))
		fixed.Put(p, r.width, r.n)
		wantPen(t, p, r.s, r.width, api.OK)
	}
}

func TestPutOfNoNumber(t *testing.T) {
	for _, width := range widths {
		p := pen.New(0)
		fixed.Put(p, width)
		fixed.Put(p, width, nil...)
		fixed.Put(p, width, []uint64{}...)
		wantPen(t, p, "", 0, api.OK)
	}
}

func TestPutOfMany(t *testing.T) {
	for _, width := range widths {
		var l []uint64
		s := "ab"
		for _, r := range rights() {
			if r.width == width {
				l = append(l, r.n)
				s += r.s
			}
		}
		p := pen.New(len(s))
		p.Text("ab")
		fixed.Put(p, width, l...)
		wantPen(t, p, s, len(s), api.OK)
		fixed.Put(p, width)
		wantPen(t, p, s, len(s), api.OK)
		fixed.Put(p, width, 0)
		wantPen(t, p, "", len(s), api.ErrLimit)
	}
}

func TestPutOfAWidthThatIsNone(t *testing.T) {
	for _, width := range noWidths {
		for _, l := range [][]uint64{nil, {}, {0}, {1, 2}, {math.MaxUint64}, {0, math.MaxUint64, 1}} {
			for max := range 5 {
				p := pen.New(max) // also where not even its own text is within the limit
				p.Text("a")
				was := p.Err()
				if was == api.OK {
					was = api.ErrArg
				}
				fixed.Put(p, width, l...)
				wantPen(t, p, "", min(max, 1), was)
				fixed.Put(p, 1, 7)
				wantPen(t, p, "", min(max, 1), was)
			}
		}
	}
}

func TestPutOfANumberThatDoesNotFitTheWidth(t *testing.T) {
	for _, o := range overs() {
		p := pen.New(100)
		p.Text("a")
		fixed.Put(p, o.width, o.n)
		wantPen(t, p, "", 1, api.ErrOver)

		p = pen.New(100)
		fixed.Put(p, o.width, 7, 8, o.n, 9, o.n)
		wantPen(t, p, "", 2*o.width, api.ErrOver)
		fixed.Put(p, o.width, 9)
		wantPen(t, p, "", 2*o.width, api.ErrOver)
	}
}

func TestPutOfANumberThatDoesNotFitTheLimit(t *testing.T) {
	for _, width := range widths {
		for room := range width {
			p := pen.New(2*width + room)
			fixed.Put(p, width, 1, 2, 3, 4)
			wantPen(t, p, "", 2*width, api.ErrLimit)
			fixed.Put(p, 1, 5) // there may be room for it, but the error stays
			wantPen(t, p, "", 2*width, api.ErrLimit)
		}
		for _, max := range []int{math.MinInt, -1, 0} {
			p := pen.New(max)
			fixed.Put(p, width, 1)
			wantPen(t, p, "", 0, api.ErrLimit)
		}
	}
}

// TestWhichErrorOfPutComesFirst: the numbers go from the left, and of one that fits neither the width nor the limit, the width is asked first.
func TestWhichErrorOfPutComesFirst(t *testing.T) {
	for _, o := range overs() {
		for room := range o.width {
			p := pen.New(o.width + room)
			fixed.Put(p, o.width, 1, o.n, 2)
			wantPen(t, p, "", o.width, api.ErrOver)

			p = pen.New(o.width + room)
			fixed.Put(p, o.width, 1, 2, o.n)
			wantPen(t, p, "", o.width, api.ErrLimit)
		}
	}
}

func TestPutAtAPenWithAnError(t *testing.T) {
	for _, e := range []api.Errno{api.ErrLimit, api.ErrSum, -1, math.MaxInt} {
		for _, width := range anyWidths() {
			for _, l := range [][]uint64{nil, {0}, {1, 2, 3}, {math.MaxUint64, 1}} {
				p := pen.New(100)
				p.Text("ab")
				p.Fail(e)
				fixed.Put(p, width, l...)
				wantPen(t, p, "", 2, e)
			}
		}
	}
}

func TestPutAtNil(t *testing.T) {
	for _, width := range anyWidths() {
		for _, l := range [][]uint64{nil, {0}, {1, 2, 3}, {math.MaxUint64, 1}} {
			var p *pen.Pen
			fixed.Put(p, width, l...)
			wantPen(t, p, "", 0, api.ErrArg)
		}
	}
}

func TestPutKeepsNoArgument(t *testing.T) {
	l := []uint64{1, 258, 7}
	p := pen.New(20)
	fixed.Put(p, 2, l[:2]...)
	if l[0] != 1 || l[1] != 258 || l[2] != 7 {
		t.Errorf("the numbers became %v", l)
	}
	l[0], l[1] = 9, 9
	wantPen(t, p, "\x00\x01\x01\x02", 4, api.OK)
}

// P4.2

func TestEncodeAndDecode(t *testing.T) {
	for _, r := range rights() {
		if s, e := fixed.Encode(r.width, r.n); s != r.s || e != api.OK {
			t.Errorf("Encode of %d, width %d, is %q, %d, not %q", r.n, r.width, s, e, r.s)
		}
		if n, e := fixed.Decode(r.width, r.s); n != r.n || e != api.OK {
			t.Errorf("Decode of %q, width %d, is %d, %d, not %d", r.s, r.width, n, e, r.n)
		}
	}
}

func TestEncodeOfANumberThatDoesNotFit(t *testing.T) {
	for _, o := range overs() {
		if s, e := fixed.Encode(o.width, o.n); s != "" || e != api.ErrOver {
			t.Errorf("Encode of %d, width %d, is %q, %d", o.n, o.width, s, e)
		}
	}
}

// TestOfAWidthThatIsNone: the width is at fault ahead of the number, and of the text.
func TestOfAWidthThatIsNone(t *testing.T) {
	for _, width := range noWidths {
		for _, n := range []uint64{0, 1, 255, 256, 1 << 32, math.MaxUint64} {
			if s, e := fixed.Encode(width, n); s != "" || e != api.ErrArg {
				t.Errorf("Encode of %d, width %d, is %q, %d", n, width, s, e)
			}
		}
		for _, s := range texts() {
			if n, e := fixed.Decode(width, s); n != 0 || e != api.ErrArg {
				t.Errorf("Decode of %q, width %d, is %d, %d", s, width, n, e)
			}
		}
		if 0 < width && width < 1000 { // a text of just so many bytes
			if n, e := fixed.Decode(width, strings.Repeat("\x01", width)); n != 0 || e != api.ErrArg {
				t.Errorf("Decode of %d bytes, width %d, is %d, %d", width, width, n, e)
			}
		}
	}
}

func TestDecodeOfFewerOrMoreBytes(t *testing.T) {
	for _, width := range widths {
		for _, x := range []string{"\x00", "\x01", "\x80", "\xff"} {
			for size := range 20 {
				want := api.OK
				if size < width {
					want = api.ErrShort
				}
				if size > width {
					want = api.ErrTrail
				}
				n, e := fixed.Decode(width, strings.Repeat(x, size))
				if e != want || e != api.OK && n != 0 {
					t.Errorf("Decode of %d bytes %q, width %d, is %d, %d, not the error %d", size, x, width, n, e, want)
				}
			}
		}
	}
}

// P4.3

// wantOrder holds the order of two numbers' bytes against their own.
func wantOrder(t *testing.T, width int, a, b uint64) {
	t.Helper()
	s, e := fixed.Encode(width, a)
	u, f := fixed.Encode(width, b)
	if e != api.OK || f != api.OK {
		t.Fatalf("width %d: %d, %d have the errors %d, %d", width, a, b, e, f)
	}
	if (a < b) != (s < u) || (a == b) != (s == u) {
		t.Errorf("width %d: %d, %d are %q, %q", width, a, b, s, u)
	}
}

func TestOrder(t *testing.T) {
	for _, r := range rights() {
		for _, o := range rights() {
			if r.width == o.width {
				wantOrder(t, r.width, r.n, o.n)
			}
		}
	}
}

// TestOrderWhereOneByteDiffers goes through all places of it, the lowest and the highest too, among bytes that are all low, or high, or neither.
func TestOrderWhereOneByteDiffers(t *testing.T) {
	for _, width := range widths {
		most := uint64(math.MaxUint64) >> (64 - 8*width)
		for _, rest := range []uint64{0, most, 0x0102030405060708 & most} {
			for place := range width {
				clear := rest &^ (0xff << (8 * place))
				for _, a := range []uint64{0, 1, 127, 128, 254, 255} {
					for _, b := range []uint64{0, 1, 127, 128, 254, 255} {
						wantOrder(t, width, clear|a<<(8*place), clear|b<<(8*place))
					}
				}
			}
		}
	}
}

// TestOrderAgainstLowerBytes: a higher byte tells more than all lower ones.
func TestOrderAgainstLowerBytes(t *testing.T) {
	for _, width := range widths {
		for place := 1; place < width; place++ {
			for _, high := range []uint64{1, 128, 255} {
				n := high << (8 * place)
				wantOrder(t, width, n, n-1)
				wantOrder(t, width, n-1, n)
			}
		}
	}
}
