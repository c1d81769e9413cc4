package digest_test

import (
	"encoding/hex"
	"strings"
	"testing"

	"spence/api"
	"spence/digest"
)

// P19.2: Right

func TestRight(t *testing.T) {
	for _, fill := range []string{"x", "\x00", "\xff", "0"} {
		for n := range 70 {
			if got := digest.Right(strings.Repeat(fill, n)); got != (n == 32) {
				t.Errorf("Right of %d bytes %q is %v", n, fill, got)
			}
		}
	}
	for _, n := range []int{288, 1 << 16, 1<<16 + 32} {
		if digest.Right(long(n)) {
			t.Errorf("Right of %d bytes", n)
		}
	}
	// A text's length is that of its bytes, not of its letters.
	if digest.Right(strings.Repeat("ä", 32)) || !digest.Right(strings.Repeat("ä", 16)) {
		t.Error("Right counts letters")
	}
}

func TestMarksAreRight(t *testing.T) {
	for _, k := range knowns() {
		if !digest.Right(digest.Of(k.texts...)) {
			t.Errorf("%s: the mark isn't right", k.name)
		}
	}
}

// P19.2: Text and Parse

// wantBothWays asks that a mark's text is its digits, and that it is read again.
func wantBothWays(t *testing.T, s string) {
	t.Helper()
	x := digest.Text(s)
	if x != hex.EncodeToString([]byte(s)) {
		t.Errorf("Text(%q) = %q", s, x)
	}
	if back, e := digest.Parse(x); back != s || e != api.OK {
		t.Errorf("Parse(%q) = %q, %v, not %q", x, back, e, s)
	}
}

func TestTextOfMarksAndOfAny32Bytes(t *testing.T) {
	for _, k := range knowns() {
		wantBothWays(t, digest.Of(k.texts...))
	}
	for i := range 256 {
		b := string([]byte{byte(i)})
		wantBothWays(t, strings.Repeat(b, 32))
		wantBothWays(t, b+long(31))
		wantBothWays(t, long(15)+b+long(16))
		wantBothWays(t, long(31)+b)
	}
	all := everyByte()
	for i := range len(all) - 31 {
		wantBothWays(t, all[i:i+32])
	}
	d := drawn(1)
	for range 3000 {
		wantBothWays(t, d.text(32))
	}
}

func TestTextKnown(t *testing.T) {
	for _, c := range []struct{ mark, text string }{
		{strings.Repeat("\x00", 32), strings.Repeat("0", 64)},
		{strings.Repeat("\xff", 32), strings.Repeat("f", 64)},
		{strings.Repeat("\x0f\xf0", 16), strings.Repeat("0ff0", 16)},
		{strings.Repeat("\x01\x23\x45\x67\x89\xab\xcd\xef", 4), strings.Repeat("0123456789abcdef", 4)},
		{strings.Repeat("\x09\x90\x0a\xa0", 8), strings.Repeat("09900aa0", 8)},
		{long(31) + "y", strings.Repeat("78", 31) + "79"},
	} {
		if s := digest.Text(c.mark); s != c.text {
			t.Errorf("Text(%q) = %q, not %q", c.mark, s, c.text)
		}
		if s, e := digest.Parse(c.text); s != c.mark || e != api.OK {
			t.Errorf("Parse(%q) = %q, %v", c.text, s, e)
		}
	}
}

func TestTextOfWhatIsNoMark(t *testing.T) {
	for n := range 300 {
		if n == 32 {
			continue
		}
		for _, fill := range []string{"x", "\x00", "0"} {
			if s := digest.Text(strings.Repeat(fill, n)); s != "" {
				t.Errorf("Text of %d bytes is %q", n, s)
			}
		}
	}
	if s := digest.Text(long(1 << 16)); s != "" {
		t.Errorf("Text of many bytes is %.20q", s)
	}
}

// wantForm asks that a text is no mark's.
func wantForm(t *testing.T, s string) {
	t.Helper()
	if got, e := digest.Parse(s); got != "" || e != api.ErrForm {
		t.Errorf("Parse(%.100q) = %q, %v", s, got, e)
	}
}

func TestParseOfOtherLengths(t *testing.T) {
	for _, fill := range []string{"0", "9", "a", "f"} {
		for n := range 200 {
			s := strings.Repeat(fill, n)
			if n != 64 {
				wantForm(t, s)
			} else if _, e := digest.Parse(s); e != api.OK {
				t.Errorf("Parse(%q): %v", s, e)
			}
		}
		wantForm(t, strings.Repeat(fill, 1<<16))
	}
	whole := digest.Text(digest.Of("a"))
	for n := range whole {
		wantForm(t, whole[:n])
		wantForm(t, whole[n+1:])
		wantForm(t, whole+whole[:n+1])
	}
	for _, more := range []string{"0", "00", " ", "\n", "\x00", "g"} {
		wantForm(t, whole+more)
		wantForm(t, more+whole)
	}
	// A mark's bytes aren't its text.
	wantForm(t, digest.Of("a"))
}

// isDigit tells whether a byte is a digit of a mark's text.
func isDigit(b byte) bool {
	return b >= '0' && b <= '9' || b >= 'a' && b <= 'f'
}

// digitOf is the number of a digit.
func digitOf(b byte) int {
	if b <= '9' {
		return int(b - '0')
	}
	return int(b-'a') + 10
}

// Each byte at each place: the digits tell what stands there, and no other byte does.
func TestParseWithEachByteAtEachPlace(t *testing.T) {
	whole := digest.Text(digest.Of("a", "bc"))
	mark := digest.Of("a", "bc")
	for at := range whole {
		for i := range 256 {
			b := byte(i)
			s := whole[:at] + string([]byte{b}) + whole[at+1:]
			if !isDigit(b) {
				wantForm(t, s)
				continue
			}
			want := []byte(mark)
			if at%2 == 0 {
				want[at/2] = want[at/2]%16 + byte(16*digitOf(b))
			} else {
				want[at/2] = want[at/2]/16*16 + byte(digitOf(b))
			}
			if got, e := digest.Parse(s); got != string(want) || e != api.OK {
				t.Errorf("Parse(%q) = %x, %v, not %x", s, got, e, want)
			}
		}
	}
}

func TestParseOfBytesJustOutside(t *testing.T) {
	whole := strings.Repeat("09af", 16)
	for _, b := range []string{"/", ":", "`", "g", "@", "G", "A", "F", " ", "+", "-", "_", "x", "\x00", "\x7f", "\x80", "\xff"} {
		for _, at := range []int{0, 1, 31, 32, 62, 63} {
			wantForm(t, whole[:at]+b+whole[at+1:])
		}
		wantForm(t, strings.Repeat(b, 64))
	}
	wantForm(t, "0x"+whole[2:])
	wantForm(t, whole[:62]+"ä")
}

func TestParseOfUpperCaseDigits(t *testing.T) {
	wantForm(t, strings.Repeat("A", 64))
	wantForm(t, strings.Repeat("F", 64))
	wantForm(t, strings.Repeat("0F", 32))
	for _, k := range knowns() {
		wantForm(t, strings.ToUpper(k.mark))
		for i, b := range []byte(k.mark) {
			if b >= 'a' {
				wantForm(t, k.mark[:i]+strings.ToUpper(k.mark[i:i+1])+k.mark[i+1:])
			}
		}
	}
}

// A mark that Parse told is one with which all goes on.
func TestParseOfTextIsTheMark(t *testing.T) {
	for _, k := range knowns() {
		s, e := digest.Parse(k.mark)
		if e != api.OK || s != digest.Of(k.texts...) || digest.Text(s) != k.mark {
			t.Errorf("%s: Parse(%q) = %x, %v", k.name, k.mark, s, e)
		}
	}
}
