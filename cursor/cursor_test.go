package cursor_test

import (
	"math"
	"testing"

	"spence/api"
	"spence/cursor"
)

// state is all that can be asked of a cursor without changing it.
type state struct {
	err      api.Errno
	at, left int
	read     string // all that was read: Since(0)
	rest     string // all that is left: Ahead of the greatest int
}

func stateOf(c *cursor.Cursor) state {
	return state{c.Err(), c.At(), c.Left(), c.Since(0), c.Ahead(math.MaxInt)}
}

// want holds a cursor against its text, its place and its error.
func want(t *testing.T, c *cursor.Cursor, text string, at int, err api.Errno) {
	t.Helper()
	w := state{err, at, len(text) - at, text[:at], text[at:]}
	if got := stateOf(c); got != w {
		t.Errorf("the state is %+v, not %+v", got, w)
	}
}

func wantText(t *testing.T, call, got, want string) {
	t.Helper()
	if got != want {
		t.Errorf("%s is %q, not %q", call, got, want)
	}
}

func wantByte(t *testing.T, c *cursor.Cursor, want byte) {
	t.Helper()
	if got := c.Byte(); got != want {
		t.Errorf("Byte is %d, not %d", got, want)
	}
}

func wantErr(t *testing.T, call string, got, want api.Errno) {
	t.Helper()
	if got != want {
		t.Errorf("%s tells %d, not %d", call, got, want)
	}
}

// edgeInts are the numbers around 0, and those at the ends.
var edgeInts = []int{math.MinInt, math.MinInt + 1, -2, -1, 0, 1, 2, 3, 4, math.MaxInt - 1, math.MaxInt}

// P1.1

func TestNew(t *testing.T) {
	for _, s := range []string{"", "a", "hello", "\x00", "\x00\xff\x80"} {
		want(t, cursor.New(s), s, 0, api.OK)
	}
}

func TestNewSharesNothing(t *testing.T) {
	a, b := cursor.New("ab"), cursor.New("ab")
	a.Byte()
	a.Fail(api.ErrSum)
	want(t, a, "ab", 1, api.ErrSum)
	want(t, b, "ab", 0, api.OK)
}

func TestByte(t *testing.T) {
	s := "a\x00\xff"
	c := cursor.New(s)
	for i := range len(s) {
		wantByte(t, c, s[i])
		want(t, c, s, i+1, api.OK)
	}
	wantByte(t, c, 0)
	want(t, c, s, 3, api.ErrShort)
}

func TestByteTellsEach(t *testing.T) {
	for b := range 256 {
		wantByte(t, cursor.New(string([]byte{byte(b)})), byte(b))
	}
}

func TestByteOfEmpty(t *testing.T) {
	c := cursor.New("")
	wantByte(t, c, 0)
	want(t, c, "", 0, api.ErrShort)
}

func TestBytes(t *testing.T) {
	c := cursor.New("hello")
	wantText(t, "Bytes(2)", c.Bytes(2), "he")
	want(t, c, "hello", 2, api.OK)
	wantText(t, "Bytes(0)", c.Bytes(0), "")
	want(t, c, "hello", 2, api.OK)
	wantText(t, "Bytes of all that are left", c.Bytes(3), "llo")
	want(t, c, "hello", 5, api.OK)
	wantText(t, "Bytes(0) at the end", c.Bytes(0), "")
	want(t, c, "hello", 5, api.OK)
	wantText(t, "Bytes(1) at the end", c.Bytes(1), "")
	want(t, c, "hello", 5, api.ErrShort)
}

func TestBytesOfZerosAndHighBytes(t *testing.T) {
	wantText(t, "Bytes(4)", cursor.New("\x00\x80\xff\x00\x01").Bytes(4), "\x00\x80\xff\x00")
}

func TestBytesOneMore(t *testing.T) {
	c := cursor.New("hello")
	c.Byte()
	wantText(t, "Bytes of one more", c.Bytes(5), "")
	want(t, c, "hello", 1, api.ErrShort)
}

func TestBytesOfEmpty(t *testing.T) {
	c := cursor.New("")
	wantText(t, "Bytes(0)", c.Bytes(0), "")
	want(t, c, "", 0, api.OK)
	wantText(t, "Bytes(1)", c.Bytes(1), "")
	want(t, c, "", 0, api.ErrShort)
}

func TestBytesOfWrongNumbers(t *testing.T) {
	for _, s := range []string{"", "ab"} {
		for at := range len(s) + 1 {
			for _, n := range []int{-1, -2, math.MinInt, math.MinInt + 1} {
				c := cursor.New(s)
				c.Bytes(at)
				wantText(t, "Bytes below 0", c.Bytes(n), "")
				want(t, c, s, at, api.ErrArg)
			}
			for _, n := range []int{math.MaxInt, math.MaxInt - 1} {
				c := cursor.New(s)
				c.Bytes(at)
				wantText(t, "Bytes of the greatest", c.Bytes(n), "")
				want(t, c, s, at, api.ErrShort)
			}
		}
	}
}

func TestAhead(t *testing.T) {
	c := cursor.New("hello")
	c.Bytes(2)
	for _, x := range []struct {
		n    int
		want string
	}{
		{0, ""}, {1, "l"}, {2, "ll"}, {3, "llo"}, {4, "llo"}, {math.MaxInt, "llo"}, {math.MaxInt - 1, "llo"},
		{-1, ""}, {-2, ""}, {-3, ""}, {math.MinInt, ""},
	} {
		wantText(t, "Ahead", c.Ahead(x.n), x.want)
		want(t, c, "hello", 2, api.OK)
	}
}

func TestAheadOfEmptyAndAtTheEnd(t *testing.T) {
	for _, s := range []string{"", "ab"} {
		c := cursor.New(s)
		c.Bytes(len(s))
		for _, n := range edgeInts {
			wantText(t, "Ahead", c.Ahead(n), "")
			want(t, c, s, len(s), api.OK)
		}
	}
}

func TestAheadBehindAnError(t *testing.T) {
	c := cursor.New("abc")
	c.Byte()
	c.Fail(api.ErrSum)
	wantText(t, "Ahead(1)", c.Ahead(1), "b")
	wantText(t, "Ahead(2)", c.Ahead(2), "bc")
	wantText(t, "Ahead(3)", c.Ahead(3), "bc")
	wantText(t, "Ahead(-1)", c.Ahead(-1), "")
	want(t, c, "abc", 1, api.ErrSum)
}

func TestReadingsBehindAnError(t *testing.T) {
	for _, e := range []api.Errno{api.ErrArg, api.ErrShort, api.ErrTrail, api.ErrForm, -1, 99, math.MinInt, math.MaxInt} {
		for at := range 4 {
			c := cursor.New("abc")
			c.Bytes(at)
			c.Fail(e)
			wantByte(t, c, 0)
			want(t, c, "abc", at, e)
			for _, n := range edgeInts {
				wantText(t, "Bytes", c.Bytes(n), "")
				want(t, c, "abc", at, e)
			}
		}
	}
}

func TestReadingsBehindTheirOwnErrors(t *testing.T) {
	c := cursor.New("ab")
	c.Bytes(3)
	c.Bytes(-1)
	wantByte(t, c, 0)
	wantText(t, "Bytes(1)", c.Bytes(1), "")
	want(t, c, "ab", 0, api.ErrShort)
	d := cursor.New("ab")
	d.Bytes(-1)
	d.Bytes(3)
	want(t, d, "ab", 0, api.ErrArg)
}

func TestExample(t *testing.T) {
	c := cursor.New("ab")
	wantByte(t, c, 'a')
	wantText(t, "Bytes(2)", c.Bytes(2), "")
	want(t, c, "ab", 1, api.ErrShort)
}

// P1.2

func TestFail(t *testing.T) {
	for _, e := range []api.Errno{api.ErrArg, api.ErrForm, -1, 19, math.MinInt, math.MaxInt} {
		c := cursor.New("ab")
		c.Byte()
		c.Fail(e)
		want(t, c, "ab", 1, e)
		c.Fail(api.ErrZero)
		want(t, c, "ab", 1, e)
		c.Fail(api.OK)
		want(t, c, "ab", 1, e)
	}
}

func TestFailWithOK(t *testing.T) {
	c := cursor.New("ab")
	c.Fail(api.OK)
	want(t, c, "ab", 0, api.OK)
	wantByte(t, c, 'a')
	c.Fail(api.ErrKind)
	want(t, c, "ab", 1, api.ErrKind)
}

func TestSince(t *testing.T) {
	c := cursor.New("hello")
	c.Bytes(3)
	for _, x := range []struct {
		from int
		want string
	}{
		{0, "hel"}, {1, "el"}, {2, "l"}, {3, ""}, {4, ""}, {5, ""}, {6, ""},
		{-1, ""}, {math.MinInt, ""}, {math.MaxInt, ""},
	} {
		wantText(t, "Since", c.Since(x.from), x.want)
		want(t, c, "hello", 3, api.OK)
	}
	c.Bytes(2)
	wantText(t, "Since(0) at the end", c.Since(0), "hello")
}

func TestSinceAtTheBeginning(t *testing.T) {
	for _, s := range []string{"", "ab"} {
		c := cursor.New(s)
		for _, from := range edgeInts {
			wantText(t, "Since", c.Since(from), "")
			want(t, c, s, 0, api.OK)
		}
	}
}

func TestSinceBehindAnError(t *testing.T) {
	c := cursor.New("hello")
	c.Bytes(3)
	c.Bytes(3)
	wantText(t, "Since(1)", c.Since(1), "el")
	want(t, c, "hello", 3, api.ErrShort)
}

func TestEndWithBytesLeft(t *testing.T) {
	c := cursor.New("ab")
	c.Byte()
	wantErr(t, "End", c.End(), api.ErrTrail)
	want(t, c, "ab", 1, api.ErrTrail)
	wantByte(t, c, 0)
	wantErr(t, "End again", c.End(), api.ErrTrail)
	want(t, c, "ab", 1, api.ErrTrail)
}

func TestEndWithoutBytesLeft(t *testing.T) {
	for _, s := range []string{"", "ab"} {
		c := cursor.New(s)
		c.Bytes(len(s))
		wantErr(t, "End", c.End(), api.OK)
		wantErr(t, "End again", c.End(), api.OK)
		want(t, c, s, len(s), api.OK)
		wantByte(t, c, 0)
		wantErr(t, "End behind an error", c.End(), api.ErrShort)
	}
}

func TestEndBehindAnError(t *testing.T) {
	for at := range 3 {
		c := cursor.New("ab")
		c.Bytes(at)
		c.Fail(api.ErrDot)
		wantErr(t, "End", c.End(), api.ErrDot)
		want(t, c, "ab", at, api.ErrDot)
	}
}

// P1.3

func TestNil(t *testing.T) {
	var c *cursor.Cursor
	nothing := state{err: api.ErrArg}
	for _, n := range edgeInts {
		wantByte(t, c, 0)
		wantText(t, "Bytes", c.Bytes(n), "")
		wantText(t, "Ahead", c.Ahead(n), "")
		wantText(t, "Since", c.Since(n), "")
		c.Fail(api.Errno(n))
		wantErr(t, "End", c.End(), api.ErrArg)
		if got := stateOf(c); got != nothing {
			t.Errorf("a nil cursor's state is %+v", got)
		}
	}
}
