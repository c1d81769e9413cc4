package pen_test

import (
	"math"
	"strings"
	"testing"

	"spence/api"
	"spence/pen"
)

// state is all that can be asked of a pen; asking doesn't change it.
type state struct {
	err, end api.Errno
	n        int
	text     string
}

func stateOf(p *pen.Pen) state {
	s, e := p.End()
	return state{p.Err(), e, p.Len(), s}
}

// wantText holds a pen without an error against its text.
func wantText(t *testing.T, p *pen.Pen, text string) {
	t.Helper()
	w := state{n: len(text), text: text}
	if got := stateOf(p); got != w {
		t.Errorf("the state is %#v, not %#v", got, w)
	}
}

// wantErr holds a pen with an error against that, and how much was written ahead of it.
func wantErr(t *testing.T, p *pen.Pen, err api.Errno, n int) {
	t.Helper()
	w := state{err: err, end: err, n: n}
	if got := stateOf(p); got != w {
		t.Errorf("the state is %#v, not %#v", got, w)
	}
}

// edgeErrors are errors that have a name, and numbers that have none.
var edgeErrors = []api.Errno{api.ErrArg, api.ErrShort, api.ErrLimit, api.ErrForm, -1, 19, math.MinInt, math.MaxInt}

// P2.1

func TestNew(t *testing.T) {
	for _, max := range []int{math.MinInt, math.MinInt + 1, -1, 0, 1, 3, api.MaxFrame, math.MaxInt - 1, math.MaxInt} {
		wantText(t, pen.New(max), "")
	}
}

func TestNewSharesNothing(t *testing.T) {
	a, b := pen.New(4), pen.New(4)
	a.Text("ab")
	b.Text("cd")
	a.Fail(api.ErrSum)
	wantErr(t, a, api.ErrSum, 2)
	wantText(t, b, "cd")
}

func TestLimitBelowZeroIsZero(t *testing.T) {
	for _, max := range []int{math.MinInt, math.MinInt + 1, -4, -1, 0} {
		p := pen.New(max)
		p.Byte()
		p.Text()
		p.Text("", "")
		wantText(t, p, "")
		p.Byte('a')
		wantErr(t, p, api.ErrLimit, 0)
		q := pen.New(max)
		q.Text("", "a")
		wantErr(t, q, api.ErrLimit, 0)
	}
}

func TestGreatestLimits(t *testing.T) {
	for _, max := range []int{math.MaxInt, math.MaxInt - 1, math.MaxInt - 2} {
		p := pen.New(max)
		p.Byte('a')
		p.Text("bc")
		p.Text("")
		p.Byte('d', 'e')
		wantText(t, p, "abcde")
	}
}

func TestByte(t *testing.T) {
	p := pen.New(300)
	want := ""
	for b := range 256 {
		p.Byte(byte(b))
		want += string([]byte{byte(b)})
		wantText(t, p, want)
	}
}

func TestByteManyAndNone(t *testing.T) {
	p := pen.New(10)
	p.Byte()
	wantText(t, p, "")
	p.Byte('a', 0, 255)
	wantText(t, p, "a\x00\xff")
	p.Byte(nil...)
	p.Byte([]byte{}...)
	wantText(t, p, "a\x00\xff")
	p.Byte('b')
	wantText(t, p, "a\x00\xffb")
}

func TestText(t *testing.T) {
	p := pen.New(20)
	p.Text()
	p.Text(nil...)
	p.Text("")
	wantText(t, p, "")
	p.Text("ab", "", "\x00\xff\x80", "", "c")
	wantText(t, p, "ab\x00\xff\x80c")
	p.Text("ä")
	wantText(t, p, "ab\x00\xff\x80cä")
}

func TestByteAndTextInTurn(t *testing.T) {
	p := pen.New(6)
	p.Text("a")
	p.Byte('b', 'c')
	p.Text("de")
	p.Byte('f')
	wantText(t, p, "abcdef")
}

func TestBytesUpToTheLimit(t *testing.T) {
	p := pen.New(3)
	p.Byte('a', 'b', 'c')
	wantText(t, p, "abc")
	p.Byte()
	p.Text("")
	wantText(t, p, "abc")
	p.Byte('d')
	wantErr(t, p, api.ErrLimit, 3)
}

func TestByteInTheMiddleThatDoesNotFit(t *testing.T) {
	for max := range 4 {
		p := pen.New(max)
		p.Byte('a', 'b', 'c', 'd', 'e')
		wantErr(t, p, api.ErrLimit, max)
	}
}

func TestTextThatJustFits(t *testing.T) {
	for max := range 6 {
		for at := range max + 1 {
			fits := pen.New(max)
			fits.Text("hello"[:at])
			fits.Text(strings.Repeat("x", max-at))
			wantText(t, fits, "hello"[:at]+strings.Repeat("x", max-at))
			over := pen.New(max)
			over.Text("hello"[:at])
			over.Text(strings.Repeat("x", max-at+1))
			wantErr(t, over, api.ErrLimit, at)
		}
	}
}

func TestTextInTheMiddleThatDoesNotFit(t *testing.T) {
	p := pen.New(4)
	p.Text("ab", "cde", "f", "")
	wantErr(t, p, api.ErrLimit, 2)
}

func TestLimitOfOneFrame(t *testing.T) {
	p := pen.New(api.MaxFrame)
	s := strings.Repeat("ab", api.MaxFrame/2)
	p.Text(s)
	wantText(t, p, s)
	p.Byte('c')
	wantErr(t, p, api.ErrLimit, api.MaxFrame)
}

func TestExample(t *testing.T) {
	p := pen.New(3)
	p.Text("ab")
	p.Text("cd")
	wantErr(t, p, api.ErrLimit, 2)
}

func TestWritingBehindAnError(t *testing.T) {
	for _, e := range edgeErrors {
		for at := range 4 {
			p := pen.New(3)
			p.Text("abc"[:at])
			p.Fail(e)
			p.Byte()
			p.Byte('x')
			p.Byte('x', 'y', 'z', 'z')
			p.Text()
			p.Text("")
			p.Text("x")
			p.Text("", "x", "too long")
			wantErr(t, p, e, at)
		}
	}
}

func TestWritingBehindTheLimit(t *testing.T) {
	p := pen.New(3)
	p.Text("ab", "cd")
	p.Byte('c')
	p.Text("c")
	wantErr(t, p, api.ErrLimit, 2)
}

// P2.2

func TestFail(t *testing.T) {
	for _, e := range edgeErrors {
		p := pen.New(5)
		p.Text("ab")
		p.Fail(e)
		wantErr(t, p, e, 2)
		p.Fail(api.ErrZero)
		wantErr(t, p, e, 2)
		p.Fail(api.OK)
		wantErr(t, p, e, 2)
	}
}

func TestFailWithOK(t *testing.T) {
	p := pen.New(3)
	p.Fail(api.OK)
	wantText(t, p, "")
	p.Byte('a')
	wantText(t, p, "a")
	p.Fail(api.OK)
	p.Byte('b')
	wantText(t, p, "ab")
	p.Fail(api.ErrKind)
	wantErr(t, p, api.ErrKind, 2)
}

func TestFailBehindTheLimit(t *testing.T) {
	p := pen.New(1)
	p.Text("ab")
	p.Fail(api.ErrSum)
	wantErr(t, p, api.ErrLimit, 0)
	q := pen.New(1)
	q.Fail(api.ErrSum)
	q.Text("ab")
	wantErr(t, q, api.ErrSum, 0)
}

func TestEndTwice(t *testing.T) {
	p := pen.New(3)
	p.Text("ab")
	for range 2 {
		if s, e := p.End(); s != "ab" || e != api.OK {
			t.Errorf("End is %q, %d", s, e)
		}
	}
	p.Fail(api.ErrDot)
	for range 2 {
		if s, e := p.End(); s != "" || e != api.ErrDot {
			t.Errorf("End behind an error is %q, %d", s, e)
		}
	}
}

func TestWritingBehindEnd(t *testing.T) {
	p := pen.New(3)
	p.Text("ab")
	first, _ := p.End()
	p.Byte('c')
	wantText(t, p, "abc")
	if first != "ab" {
		t.Errorf("an earlier End's text became %q", first)
	}
	p.Byte('d')
	wantErr(t, p, api.ErrLimit, 3)
}

func TestEndOfNothing(t *testing.T) {
	p := pen.New(0)
	if s, e := p.End(); s != "" || e != api.OK {
		t.Errorf("End is %q, %d", s, e)
	}
}

// What is handed in is kept by its values alone, and isn't changed, nor what lies behind it.
func TestArgumentsAreNotKept(t *testing.T) {
	b := []byte("abXY")
	l := []string{"cd", "ef", "XY"}
	p := pen.New(20)
	p.Byte(b[:2]...)
	p.Text(l[:2]...)
	p.Byte('g', 'h')
	if string(b) != "abXY" || strings.Join(l, " ") != "cd ef XY" {
		t.Errorf("the arguments became %q, %q", b, l)
	}
	b[0], l[0] = '?', "?"
	wantText(t, p, "abcdefgh")
}

// P2.3

func TestNil(t *testing.T) {
	var p *pen.Pen
	calls := []func(){
		func() {},
		func() { p.Byte() },
		func() { p.Byte('a') },
		func() { p.Byte('a', 'b') },
		func() { p.Text() },
		func() { p.Text("") },
		func() { p.Text("ab", "", "c") },
		func() { p.Fail(api.OK) },
	}
	for _, e := range edgeErrors {
		calls = append(calls, func() { p.Fail(e) })
	}
	for _, call := range calls {
		call()
		wantErr(t, p, api.ErrArg, 0)
	}
}
