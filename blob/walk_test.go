package blob_test

import (
	"math"
	"math/big"
	"testing"

	"spence/api"
	"spence/blob"
	"spence/cursor"
	"spence/pen"
)

// limit is a limit as an exact number, 0 where it is below that.
func limit(max int) *big.Int {
	if max < 0 {
		return new(big.Int)
	}
	return big.NewInt(int64(max))
}

// plainNumber reads a number as chapter 3's words say it, with exact numbers: the number, the place, and the error.
func plainNumber(s string) (*big.Int, int, api.Errno) {
	sum := new(big.Int)
	for i := 0; ; i++ {
		if i >= len(s) {
			return nil, i, api.ErrShort
		}
		if i == 9 && s[i] > 1 {
			return nil, i, api.ErrOver
		}
		if s[i] == 0 && i != 0 {
			return nil, i, api.ErrMinimal
		}
		sum.Add(sum, new(big.Int).Lsh(big.NewInt(int64(s[i]%128)), uint(7*i)))
		if s[i] < 128 {
			return sum, i + 1, api.OK
		}
	}
}

// plainCount reads a count: the number, the place, and the error.
func plainCount(s string, max int) (int, int, api.Errno) {
	n, at, e := plainNumber(s)
	if e != api.OK {
		return 0, at, e
	}
	if n.Cmp(limit(max)) > 0 {
		return 0, at, api.ErrLimit
	}
	return int(n.Int64()), at, api.OK
}

// plainTake reads a blob: its bytes, the place, and the error.
func plainTake(s string, max int) (string, int, api.Errno) {
	n, at, e := plainCount(s, max)
	if e != api.OK {
		return "", at, e
	}
	if big.NewInt(int64(n)).Cmp(big.NewInt(int64(len(s)-at))) > 0 {
		return "", at, api.ErrShort
	}
	return s[at : at+n], at + n, api.OK
}

// plainBytes are a number's bytes.
func plainBytes(n int) string {
	if n < 128 {
		return string([]byte{byte(n)})
	}
	return string([]byte{byte(128 + n%128)}) + plainBytes(n/128)
}

// plainPut writes blobs behind a text, up to a pen's room: what is written, and the error.
func plainPut(s string, room, max int, l []string) (string, api.Errno) {
	for _, x := range l {
		if big.NewInt(int64(len(x))).Cmp(limit(max)) > 0 {
			return s, api.ErrLimit
		}
		for _, part := range []string{plainBytes(len(x)), x} {
			if len(s)+len(part) > room {
				return s, api.ErrLimit
			}
			s += part
		}
	}
	return s, api.OK
}

// plainAbove tells whether b is above a, byte by byte.
func plainAbove(a, b string) bool {
	for i := 0; ; i++ {
		if i == len(a) || i == len(b) {
			return len(b) > len(a)
		}
		if a[i] != b[i] {
			return b[i] > a[i]
		}
	}
}

// rows are all rows of up to k elements.
func rows[T any](of []T, k int) [][]T {
	all := [][]T{nil}
	for from := 0; k > 0; k-- {
		to := len(all)
		for _, row := range all[from:to] {
			for _, x := range of {
				all = append(all, append(append([]T{}, row...), x))
			}
		}
		from = to
	}
	return all
}

// shortTexts are all of up to two bytes, and all of up to five edge bytes, alone and behind long beginnings.
func shortTexts() []string {
	var all []byte
	for i := range 256 {
		all = append(all, byte(i))
	}
	var l []string
	for _, b := range rows(all, 2) {
		l = append(l, string(b))
	}
	for _, b := range rows([]byte{0, 1, 2, 127, 128, 255}, 5) {
		s := string(b)
		l = append(l, s, ints["greatest"][:7]+s, ints["above"][:8]+s)
	}
	return l
}

// TestAllShortTexts holds all readings against the plain ones.
func TestAllShortTexts(t *testing.T) {
	for _, s := range shortTexts() {
		for _, max := range []int{math.MinInt, -1, 0, 1, 2, 3, 127, 128, 255, 1 << 32, math.MaxInt - 1, math.MaxInt} {
			c := cursor.New(s)
			want, at, e := plainTake(s, max)
			if got := blob.Take(c, max); got != want || c.At() != at || c.Err() != e {
				t.Fatalf("Take of %q, limit %d: %q at %d, error %d; not %q at %d, error %d", s, max, got, c.At(), c.Err(), want, at, e)
			}
			c = cursor.New(s)
			count, at, e := plainCount(s, max)
			if n := blob.Count(c, max); n != count || c.At() != at || c.Err() != e {
				t.Fatalf("Count of %q, limit %d: %d at %d, error %d; not %d at %d, error %d", s, max, n, c.At(), c.Err(), count, at, e)
			}
		}
	}
}

// TestWhatIsReadIsWrittenAgain holds each reading without an error against what is written of its answer.
func TestWhatIsReadIsWrittenAgain(t *testing.T) {
	for _, s := range shortTexts() {
		c, d := cursor.New(s), cursor.New(s)
		p, q := pen.New(len(s)), pen.New(len(s))
		blob.Put(p, 255, blob.Take(c, 255))
		if again, e := p.End(); c.Err() == api.OK && (again != c.Since(0) || e != api.OK) {
			t.Fatalf("%q is read as a blob, and written as %q, error %d", c.Since(0), again, e)
		}
		blob.PutCount(q, math.MaxInt, blob.Count(d, math.MaxInt))
		if again, e := q.End(); d.Err() == api.OK && (again != d.Since(0) || e != api.OK) {
			t.Fatalf("%q is read as a count, and written as %q, error %d", d.Since(0), again, e)
		}
	}
}

// TestAllRowsOfTexts holds Put against the plain writing, at all limits around the texts' lengths and at pens of all rooms.
func TestAllRowsOfTexts(t *testing.T) {
	for _, l := range rows([]string{"", "a", "\x00\xff", "abc", long(127), long(128)}, 3) {
		for _, max := range []int{math.MinInt, -1, 0, 1, 2, 3, 126, 127, 128, math.MaxInt} {
			for _, room := range []int{1, 2, 3, 4, 5, 6, 7, 8, 9, 10, 128, 129, 130, 131, 132, 133, 400} {
				want, e := plainPut("a", room, max, l)
				p := pen.New(room)
				p.Text("a")
				blob.Put(p, max, l...)
				if p.Err() != e || p.Len() != len(want) {
					t.Fatalf("Put of %q, limit %d, room %d: %d bytes, error %d; not %q, error %d", l, max, room, p.Len(), p.Err(), want, e)
				}
				if s, _ := p.End(); e == api.OK && s != want {
					t.Fatalf("Put of %q, limit %d, room %d: %q, not %q", l, max, room, s, want)
				}
			}
		}
	}
}

// TestAllRowsRise holds Rising against the plain order.
func TestAllRowsRise(t *testing.T) {
	for _, l := range rows([]string{"", "\x00", "\x00\x00", "a", "a\x00", "a\x7f", "a\x80", "ab", "b", "\x80", "\xff", "\xff\x00"}, 4) {
		want := -1
		for i := len(l) - 1; i > 0; i-- {
			if !plainAbove(l[i-1], l[i]) {
				want = i
			}
		}
		if got := blob.Rising(l...); got != want {
			t.Fatalf("Rising of %q: %d, not %d", l, got, want)
		}
	}
}
