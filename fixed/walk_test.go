package fixed_test

import (
	"math"
	"math/big"
	"testing"

	"spence/api"
	"spence/cursor"
	"spence/fixed"
	"spence/pen"
)

// isOne tells whether a width is one, as the document's words say it.
func isOne(width int) bool {
	return width == 1 || width == 2 || width == 4 || width == 8
}

// plainRead reads a number with exact numbers: the number, the place behind it, and the error.
func plainRead(width int, s string) (uint64, int, api.Errno) {
	if !isOne(width) {
		return 0, 0, api.ErrArg
	}
	if len(s) < width {
		return 0, 0, api.ErrShort
	}
	return new(big.Int).SetBytes([]byte(s[:width])).Uint64(), width, api.OK
}

// plainWrite writes a number with exact numbers.
func plainWrite(width int, n uint64) (string, api.Errno) {
	if !isOne(width) {
		return "", api.ErrArg
	}
	exact := new(big.Int).SetUint64(n)
	if exact.Cmp(new(big.Int).Exp(big.NewInt(256), big.NewInt(int64(width)), nil)) >= 0 {
		return "", api.ErrOver
	}
	return string(exact.FillBytes(make([]byte, width))), api.OK
}

// plainPut writes numbers behind a text, up to a limit: what is written, and the error.
func plainPut(s string, max, width int, l []uint64) (string, api.Errno) {
	if !isOne(width) {
		return s, api.ErrArg
	}
	for _, n := range l {
		b, e := plainWrite(width, n)
		if e != api.OK {
			return s, e
		}
		if len(s)+len(b) > max {
			return s, api.ErrLimit
		}
		s += b
	}
	return s, api.OK
}

// rows are all rows of up to k elements.
func rows[T any](of []T, k int) [][]T {
	all := [][]T{nil}
	last := all
	for range k {
		var next [][]T
		for _, row := range last {
			for _, x := range of {
				next = append(next, append(append([]T{}, row...), x))
			}
		}
		all, last = append(all, next...), next
	}
	return all
}

// TestAllShortTexts holds Take and Decode against the plain reading, at all widths around those that there are.
func TestAllShortTexts(t *testing.T) {
	for _, bytes := range rows([]byte{0, 1, 128, 255}, 5) {
		for _, behind := range []string{"", "\x01\x02\x03", "\xff\xfe\xfd\xfc\xfb\xfa"} {
			s := string(bytes) + behind
			for width := -2; width < 12; width++ {
				want, at, e := plainRead(width, s)
				c := cursor.New(s)
				if n := fixed.Take(c, width); n != want || c.At() != at || c.Err() != e {
					t.Fatalf("Take of %q, width %d: %d at %d, error %d; not %d at %d, error %d", s, width, n, c.At(), c.Err(), want, at, e)
				}
				if e == api.OK && at < len(s) {
					want, e = 0, api.ErrTrail
				}
				if n, got := fixed.Decode(width, s); n != want || got != e {
					t.Fatalf("Decode of %q, width %d: %d, error %d; not %d, error %d", s, width, n, got, want, e)
				}
			}
		}
	}
}

// TestNumbersAroundAllPowersOfTwo holds Encode against the plain writing, and reads again what it wrote.
func TestNumbersAroundAllPowersOfTwo(t *testing.T) {
	for k := range 64 {
		for d := range 5 {
			n := uint64(1)<<k + uint64(d) - 2
			for width := -2; width < 12; width++ {
				want, e := plainWrite(width, n)
				s, got := fixed.Encode(width, n)
				if s != want || got != e {
					t.Fatalf("Encode of %d, width %d: %q, error %d; not %q, error %d", n, width, s, got, want, e)
				}
				if e != api.OK {
					continue
				}
				if again, e := fixed.Decode(width, s); again != n || e != api.OK {
					t.Fatalf("%d, width %d, is %q, which is read as %d, error %d", n, width, s, again, e)
				}
			}
		}
	}
}

// TestAllNumbersOfTheLeastWidths goes through each number and each text of the widths 1 and 2, in their order.
func TestAllNumbersOfTheLeastWidths(t *testing.T) {
	for _, width := range []int{1, 2} {
		last := ""
		for n := range uint64(1) << (8 * width) {
			s, e := fixed.Encode(width, n)
			if e != api.OK || len(s) != width || s <= last {
				t.Fatalf("Encode of %d, width %d: %q, error %d, behind %q", n, width, s, e, last)
			}
			if again, e := fixed.Decode(width, s); again != n || e != api.OK {
				t.Fatalf("%d, width %d, is %q, which is read as %d, error %d", n, width, s, again, e)
			}
			last = s
		}
	}
}

// TestAllRowsOfNumbers holds Put of all rows of three numbers at the widths' edges against the plain writing, at all limits up to where they fit.
func TestAllRowsOfNumbers(t *testing.T) {
	edges := []uint64{0, 255, 256, 65535, 65536, 1<<32 - 1, 1 << 32, math.MaxUint64}
	for _, l := range rows(edges, 3) {
		for width := -1; width < 10; width++ {
			for max := 1; max < 27; max++ {
				want, e := plainPut("a", max, width, l)
				p := pen.New(max)
				p.Text("a")
				fixed.Put(p, width, l...)
				if p.Err() != e || p.Len() != len(want) {
					t.Fatalf("Put of %v, width %d, limit %d: %d bytes, error %d; not %q, error %d", l, width, max, p.Len(), p.Err(), want, e)
				}
				if s, _ := p.End(); e == api.OK && s != want {
					t.Fatalf("Put of %v, width %d, limit %d: %q, not %q", l, width, max, s, want)
				}
			}
		}
	}
}
