package digest_test

import (
	"math/big"
	"strings"
	"testing"

	"spence/digest"
)

// maker is a way to come by a maker of no texts.
type maker struct {
	name string
	make func() *digest.Maker
}

// makers are all ways: a new one, and the zero value.
func makers() []maker {
	return []maker{
		{"new", digest.New},
		{"zero", func() *digest.Maker { return new(digest.Maker) }},
	}
}

// long is a text of n bytes.
func long(n int) string {
	return strings.Repeat("x", n)
}

// everyByte is a text with each byte that there is.
func everyByte() string {
	var l []byte
	for i := range 256 {
		l = append(l, byte(i))
	}
	return string(l)
}

// plainLength are the bytes of a length, by exact numbers: seven bits each, the lowest first, and 128 more in all but the last.
func plainLength(n int) []byte {
	var l []byte
	rest, base, low := big.NewInt(int64(n)), big.NewInt(128), new(big.Int)
	for rest.Cmp(base) >= 0 {
		rest.DivMod(rest, base, low)
		l = append(l, byte(128+low.Int64()))
	}
	return append(l, byte(rest.Int64()))
}

// plainNumber is what becomes of a number into which bytes are mixed, by exact numbers: their lowest 8 bits are changed where the byte has ones, and the product is what is left of it when it is divided by 2 to the power 64.
func plainNumber(n *big.Int, l []byte) *big.Int {
	factor := big.NewInt(1099511628211)
	round := new(big.Int).Exp(big.NewInt(2), big.NewInt(64), nil)
	n = new(big.Int).Set(n)
	for _, b := range l {
		n.Xor(n, big.NewInt(int64(b)))
		n.Mul(n, factor)
		n.Mod(n, round)
	}
	return n
}

// plainMark is the mark of texts as the chapter's words say it.
func plainMark(l ...string) string {
	var all []byte
	for _, s := range l {
		all = append(all, plainLength(len(s))...)
		all = append(all, s...)
	}
	first, ok := new(big.Int).SetString("14695981039346656037", 10)
	if !ok {
		panic("no number")
	}
	var mark []byte
	for i := range 4 {
		n := plainNumber(new(big.Int).Add(first, big.NewInt(int64(i))), all)
		mark = append(mark, n.FillBytes(make([]byte, 8))...)
	}
	return string(mark)
}

// wantMark holds a mark against another one.
func wantMark(t *testing.T, name, got, want string) {
	t.Helper()
	if got != want {
		t.Errorf("%s: the mark %x, not %x", name, got, want)
	}
}

// wantUnlike asks that no two of many rows of texts have the same mark.
func wantUnlike(t *testing.T, l [][]string) {
	t.Helper()
	seen := map[string][]string{}
	for _, row := range l {
		s := digest.Of(row...)
		if len(s) != 32 {
			t.Errorf("the mark of %.100q has %d bytes", row, len(s))
		}
		if other, there := seen[s]; there {
			t.Errorf("%.100q and %.100q have the same mark", other, row)
		}
		seen[s] = row
	}
}

// rows are all rows of up to k elements.
func rows[T any](of []T, k int) [][]T {
	all := [][]T{nil}
	for from := 0; k > 0; k-- {
		to := len(all)
		for _, row := range all[from:to] {
			for _, x := range of {
				all = append(all, append(append([]T{}, row...), x))
			}
		}
		from = to
	}
	return all
}

// drawn are numbers that look drawn, and are the same each time.
type drawn uint64

// below is one of 0 to n-1.
func (d *drawn) below(n int) int {
	*d ^= *d << 13
	*d ^= *d >> 7
	*d ^= *d << 17
	return int(uint64(*d) % uint64(n))
}

// text is one of n bytes.
func (d *drawn) text(n int) string {
	l := make([]byte, n)
	for i := range l {
		l[i] = byte(d.below(256))
	}
	return string(l)
}
