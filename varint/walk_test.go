package varint_test

import (
	"math/big"
	"testing"

	"spence/api"
	"spence/cursor"
	"spence/varint"
)

// plain reads a number as the document's words say it, with exact numbers: the number, the place, and the error.
func plain(s string) (*big.Int, int, api.Errno) {
	sum, unit := new(big.Int), big.NewInt(1)
	for i := 0; ; i++ {
		if i >= len(s) {
			return new(big.Int), i, api.ErrShort
		}
		if i == 9 && s[i] > 1 {
			return new(big.Int), i, api.ErrOver
		}
		if s[i] < 128 && s[i] == 0 && i != 0 {
			return new(big.Int), i, api.ErrMinimal
		}
		sum.Add(sum, new(big.Int).Mul(unit, big.NewInt(int64(s[i]&127))))
		if s[i] < 128 {
			return sum, i + 1, api.OK
		}
		unit.Mul(unit, big.NewInt(128))
	}
}

// texts are all of up to two bytes, all of up to four edge bytes, and all of these edge bytes' pairs behind long beginnings.
func texts() []string {
	l := []string{""}
	for a := range 256 {
		l = append(l, string([]byte{byte(a)}))
		for b := range 256 {
			l = append(l, string([]byte{byte(a), byte(b)}))
		}
	}
	edges := []string{"\x00", "\x01", "\x02", "\x40", "\x7f", "\x80", "\x81", "\xfe", "\xff"}
	row := []string{""}
	for range 4 {
		var next []string
		for _, s := range row {
			for _, x := range edges {
				next = append(next, s+x)
			}
		}
		l, row = append(l, next...), next
	}
	for _, s := range row {
		for k := 1; k < 9; k++ {
			l = append(l, low(k)+s, high(k)+s)
		}
	}
	return l
}

// TestAllShortTexts holds Take and Decode against the plain reading.
func TestAllShortTexts(t *testing.T) {
	for _, s := range texts() {
		want, at, e := plain(s)
		c := cursor.New(s)
		if n := varint.Take(c); !want.IsUint64() || n != want.Uint64() || c.At() != at || c.Err() != e {
			t.Fatalf("Take of %q: %d at %d, error %d; not %v at %d, error %d", s, n, c.At(), c.Err(), want, at, e)
		}
		if e == api.OK && at < len(s) {
			want, e = new(big.Int), api.ErrTrail
		}
		if n, got := varint.Decode(s); n != want.Uint64() || got != e {
			t.Fatalf("Decode of %q: %d, error %d; not %v, error %d", s, n, got, want, e)
		}
	}
}

// TestZigByExactNumbers holds Zig against the document's words, at the numbers around all powers of two, below 0 too.
func TestZigByExactNumbers(t *testing.T) {
	for k := range 64 {
		for d := range 5 {
			n := int64(uint64(1)<<k + uint64(d) - 2)
			want := new(big.Int).Mul(big.NewInt(n), big.NewInt(2))
			if n < 0 {
				want.Neg(want).Sub(want, big.NewInt(1))
			}
			if u := varint.Zig(n); !want.IsUint64() || u != want.Uint64() {
				t.Errorf("Zig of %d is %d, not %v", n, u, want)
			}
		}
	}
}
