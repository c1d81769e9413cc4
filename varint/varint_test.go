package varint_test

import (
	"math"
	"strings"
	"testing"

	"spence/api"
	"spence/cursor"
	"spence/pen"
	"spence/varint"
)

// low is k bytes 128: a beginning that adds nothing to a number.
func low(k int) string { return strings.Repeat("\x80", k) }

// high is k bytes 255: a beginning that adds all it can to a number.
func high(k int) string { return strings.Repeat("\xff", k) }

// right is a number, and its bytes.
type right struct {
	n uint64
	s string
}

// rights are the numbers at the edges of each count of bytes, and a few of the ordinary ones.
func rights() []right {
	l := []right{
		{0, "\x00"}, {1, "\x01"}, {2, "\x02"}, {126, "\x7e"}, {129, "\x81\x01"}, {255, "\xff\x01"}, {256, "\x80\x02"}, {300, "\xac\x02"},
		{65535, "\xff\xff\x03"}, {65536, "\x80\x80\x04"}, {1<<32 - 1, "\xff\xff\xff\xff\x0f"}, {1 << 32, "\x80\x80\x80\x80\x10"},
		{1<<63 + 1, "\x81" + low(8) + "\x01"}, {math.MaxUint64 - 1, "\xfe" + high(8) + "\x01"}, {math.MaxUint64, high(9) + "\x01"},
	}
	for size := 1; size < 10; size++ {
		over := uint64(1) << (7 * size)
		l = append(l, right{over - 1, high(size-1) + "\x7f"}, right{over, low(size) + "\x01"})
	}
	return l
}

// wrong is a text that begins with no number: the error, and the place behind it.
type wrong struct {
	s  string
	e  api.Errno
	at int
}

func wrongs() []wrong {
	l := []wrong{
		{"", api.ErrShort, 0},
		{"\x80\x00", api.ErrMinimal, 1},
		{"\xff\x00\x05", api.ErrMinimal, 1},
		{"\xac\x82\x00", api.ErrMinimal, 2},
	}
	for k := 1; k < 10; k++ {
		l = append(l,
			wrong{low(k), api.ErrShort, k}, wrong{high(k), api.ErrShort, k},
			wrong{low(k) + "\x00", api.ErrMinimal, k}, wrong{high(k) + "\x00", api.ErrMinimal, k}, wrong{high(k) + "\x00\x00\x01", api.ErrMinimal, k})
	}
	for _, last := range []string{"\x02", "\x03", "\x7f", "\x80", "\x81", "\x82", "\xff", "\x80\x00", "\x80\x01", "\xff\xff\xff"} {
		l = append(l, wrong{low(9) + last, api.ErrOver, 9}, wrong{high(9) + last, api.ErrOver, 9})
	}
	return l
}

// wantCursor holds a cursor against its place and its error.
func wantCursor(t *testing.T, s string, c *cursor.Cursor, at int, e api.Errno) {
	t.Helper()
	if c.At() != at || c.Err() != e {
		t.Errorf("%q: at %d with the error %d, not at %d with %d", s, c.At(), c.Err(), at, e)
	}
}

// wantPen holds a pen against its text (empty beside an error), how much was written, and its error.
func wantPen(t *testing.T, p *pen.Pen, text string, n int, e api.Errno) {
	t.Helper()
	if s, end := p.End(); s != text || end != e || p.Err() != e || p.Len() != n {
		t.Errorf("the pen has %q, %d, %d bytes, not %q, %d, %d bytes", s, end, p.Len(), text, e, n)
	}
}

// P3.1

func TestTake(t *testing.T) {
	for _, r := range rights() {
		for _, behind := range []string{"", "\x00", "\x01", "\x80", "\xff\xff", high(12)} {
			c := cursor.New(r.s + behind)
			if n := varint.Take(c); n != r.n {
				t.Errorf("%q: %d, not %d", r.s+behind, n, r.n)
			}
			wantCursor(t, r.s+behind, c, len(r.s), api.OK)
		}
	}
}

func TestTakeWithinAText(t *testing.T) {
	for _, ahead := range []string{"a", "\x80", high(9), low(20)} {
		for _, r := range rights() {
			c := cursor.New(ahead + r.s + "b")
			c.Bytes(len(ahead))
			if n := varint.Take(c); n != r.n {
				t.Errorf("%q: %d, not %d", ahead+r.s, n, r.n)
			}
			wantCursor(t, ahead+r.s, c, len(ahead+r.s), api.OK)
		}
	}
}

func TestTakeOneByOne(t *testing.T) {
	s := ""
	for _, r := range rights() {
		s += r.s
	}
	c := cursor.New(s)
	for _, r := range rights() {
		if n := varint.Take(c); n != r.n {
			t.Errorf("%d, not %d", n, r.n)
		}
	}
	wantCursor(t, s, c, len(s), api.OK)
	if n := varint.Take(c); n != 0 {
		t.Errorf("at the end: %d", n)
	}
	wantCursor(t, s, c, len(s), api.ErrShort)
}

func TestTakeOfWhatIsNoNumber(t *testing.T) {
	for _, w := range wrongs() {
		for _, ahead := range []string{"", "\x05", high(3)} {
			c := cursor.New(ahead + w.s)
			c.Bytes(len(ahead))
			for range 2 { // the second one is at a cursor with an error
				if n := varint.Take(c); n != 0 {
					t.Errorf("%q: %d", w.s, n)
				}
				wantCursor(t, ahead+w.s, c, len(ahead)+w.at, w.e)
			}
		}
	}
}

func TestTakeAtACursorWithAnError(t *testing.T) {
	for _, e := range []api.Errno{api.ErrArg, api.ErrSum, -1, math.MaxInt} {
		for _, s := range []string{"a\x05", "a\x80\x00", "a", "a" + high(11)} {
			c := cursor.New(s)
			c.Byte()
			c.Fail(e)
			if n := varint.Take(c); n != 0 {
				t.Errorf("%q: %d", s, n)
			}
			wantCursor(t, s, c, 1, e)
		}
	}
}

func TestTakeAtNil(t *testing.T) {
	var c *cursor.Cursor
	if n := varint.Take(c); n != 0 {
		t.Errorf("%d", n)
	}
	wantCursor(t, "nil", c, 0, api.ErrArg)
}

func TestPut(t *testing.T) {
	for _, r := range rights() {
		p := pen.New(len(r.s))
		varint.Put(p, r.n)
		wantPen(t, p, r.s, len(r.s), api.OK)
	}
}

func TestPutOfNoNumber(t *testing.T) {
	p := pen.New(0)
	varint.Put(p)
	varint.Put(p, nil...)
	varint.Put(p, []uint64{}...)
	wantPen(t, p, "", 0, api.OK)
}

func TestPutOfMany(t *testing.T) {
	var l []uint64
	s := "ab"
	for _, r := range rights() {
		l = append(l, r.n)
		s += r.s
	}
	p := pen.New(len(s))
	p.Text("ab")
	varint.Put(p, l...)
	wantPen(t, p, s, len(s), api.OK)
	varint.Put(p)
	wantPen(t, p, s, len(s), api.OK)
	varint.Put(p, 0)
	wantPen(t, p, "", len(s), api.ErrLimit)
}

func TestPutOfOneThatDoesNotFit(t *testing.T) {
	for _, r := range rights() {
		for room := range len(r.s) {
			p := pen.New(2 + room)
			varint.Put(p, 300, r.n, 0, 1)
			wantPen(t, p, "", 2, api.ErrLimit)
			varint.Put(p, 0)
			wantPen(t, p, "", 2, api.ErrLimit)
		}
	}
}

func TestPutAtAPenWithAnError(t *testing.T) {
	p := pen.New(20)
	varint.Put(p, 300)
	p.Fail(api.ErrSum)
	varint.Put(p, 1, math.MaxUint64, math.MaxUint64, math.MaxUint64)
	wantPen(t, p, "", 2, api.ErrSum)
}

func TestPutAtNil(t *testing.T) {
	var p *pen.Pen
	varint.Put(p)
	varint.Put(p, 1)
	varint.Put(p, 0, 300, math.MaxUint64)
	wantPen(t, p, "", 0, api.ErrArg)
}

func TestPutKeepsNoArgument(t *testing.T) {
	l := []uint64{1, 300, 7}
	p := pen.New(20)
	varint.Put(p, l[:2]...)
	if l[0] != 1 || l[1] != 300 || l[2] != 7 {
		t.Errorf("the numbers became %v", l)
	}
	l[0], l[1] = 9, 9
	wantPen(t, p, "\x01\xac\x02", 3, api.OK)
}

// P3.2

func TestSizeEncodeDecode(t *testing.T) {
	for _, r := range rights() {
		if n := varint.Size(r.n); n != len(r.s) {
			t.Errorf("Size of %d is %d, not %d", r.n, n, len(r.s))
		}
		if s := varint.Encode(r.n); s != r.s {
			t.Errorf("Encode of %d is %q, not %q", r.n, s, r.s)
		}
		if n, e := varint.Decode(r.s); n != r.n || e != api.OK {
			t.Errorf("Decode of %q is %d, %d, not %d", r.s, n, e, r.n)
		}
	}
}

func TestDecodeOfWhatIsNoNumber(t *testing.T) {
	for _, w := range wrongs() {
		if n, e := varint.Decode(w.s); n != 0 || e != w.e {
			t.Errorf("Decode of %q is %d, %d, not 0, %d", w.s, n, e, w.e)
		}
	}
}

func TestDecodeWithBytesBehind(t *testing.T) {
	for _, r := range rights() {
		for _, behind := range []string{"\x00", "\x01", "\x80", "\xff", "\x80\x00", high(10), r.s} {
			if n, e := varint.Decode(r.s + behind); n != 0 || e != api.ErrTrail {
				t.Errorf("Decode of %q is %d, %d", r.s+behind, n, e)
			}
		}
	}
}

// turned are numbers, and what they are turned about.
var turned = []struct {
	n int64
	u uint64
}{
	{0, 0}, {-1, 1}, {1, 2}, {-2, 3}, {2, 4}, {-3, 5}, {63, 126}, {-64, 127}, {64, 128}, {-65, 129},
	{1<<32 - 1, 1<<33 - 2}, {-1 << 32, 1<<33 - 1}, {1 << 62, 1 << 63}, {-1<<62 - 1, 1<<63 + 1}, {-1 << 62, 1<<63 - 1},
	{math.MaxInt64 - 1, math.MaxUint64 - 3}, {math.MinInt64 + 1, math.MaxUint64 - 2}, {math.MaxInt64, math.MaxUint64 - 1}, {math.MinInt64, math.MaxUint64},
}

func TestZigAndZag(t *testing.T) {
	for _, x := range turned {
		if u := varint.Zig(x.n); u != x.u {
			t.Errorf("Zig of %d is %d, not %d", x.n, u, x.u)
		}
		if n := varint.Zag(x.u); n != x.n {
			t.Errorf("Zag of %d is %d, not %d", x.u, n, x.n)
		}
	}
}

func TestZagTurnsZigBack(t *testing.T) {
	for k := range 64 {
		for d := range 5 {
			u := uint64(1)<<k + uint64(d) - 2
			if got := varint.Zig(varint.Zag(u)); got != u {
				t.Errorf("Zig of Zag of %d is %d", u, got)
			}
			if got := varint.Zag(varint.Zig(int64(u))); got != int64(u) {
				t.Errorf("Zag of Zig of %d is %d", int64(u), got)
			}
		}
	}
}

// P3.3

func TestAGreaterNumberHasNoFewerBytes(t *testing.T) {
	last := 1
	for k := range 64 {
		for _, n := range []uint64{1<<k - 1, 1 << k, 1<<k + 1<<k/2} {
			size := varint.Size(n)
			if size < last || size > 10 || len(varint.Encode(n)) != size {
				t.Errorf("%d has %d bytes, Size %d, behind one of %d", n, len(varint.Encode(n)), size, last)
			}
			last = size
		}
	}
	if n := varint.Size(math.MaxUint64); n != 10 {
		t.Errorf("the greatest number has %d bytes", n)
	}
}

func TestEachNumberHasOneText(t *testing.T) {
	of := map[uint64]string{}
	for _, s := range texts() {
		n, e := varint.Decode(s)
		if e != api.OK {
			continue
		}
		if was, ok := of[n]; ok && was != s {
			t.Fatalf("%d has the texts %q and %q", n, was, s)
		}
		of[n] = s
		if again := varint.Encode(n); again != s {
			t.Fatalf("%q is read as %d, whose text is %q", s, n, again)
		}
	}
	for n := range uint64(1 << 14) {
		if of[n] != varint.Encode(n) {
			t.Fatalf("%d is read from %q, its text is %q", n, of[n], varint.Encode(n))
		}
	}
}
