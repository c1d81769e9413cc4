package frame_test

import (
	"encoding/binary"
	"hash/crc32"
	"testing"

	"spence/api"
	"spence/cursor"
	"spence/frame"
)

// plainSum are the bytes of a text's sum, by another library's sums.
func plainSum(s string) string {
	return string(binary.BigEndian.AppendUint32(nil, crc32.ChecksumIEEE([]byte(s))))
}

// plainEncode are a frame's bytes as the chapter's words say it, with no limit and any version.
func plainEncode(f api.Frame) string {
	body := text(f.Version, f.Kind) + string(binary.AppendUvarint(nil, uint64(len(f.Payload)))) + f.Payload
	return "\xd7\x4e" + body + plainSum(body)
}

// plainNumber reads a number from a place on: the number, the place, and the error.
func plainNumber(s string, at int) (uint64, int, api.Errno) {
	n := uint64(0)
	for i := 0; ; i++ {
		switch {
		case at+i >= len(s):
			return 0, at + i, api.ErrShort
		case i == 9 && s[at+i] > 1:
			return 0, at + i, api.ErrOver
		case i != 0 && s[at+i] == 0:
			return 0, at + i, api.ErrMinimal
		}
		n += uint64(s[at+i]%128) << (7 * i)
		if s[at+i] < 128 {
			return n, at + i + 1, api.OK
		}
	}
}

// plainTake reads a frame as the chapter's words say it: the frame, the place, and the error.
func plainTake(s string) (api.Frame, int, api.Errno) {
	none := api.Frame{}
	for i, e := range []api.Errno{api.ErrMagic, api.ErrMagic, api.ErrVersion} {
		if i >= len(s) {
			return none, i, api.ErrShort
		}
		if i == 0 && s[i] != 215 || i == 1 && s[i] != 78 || i == 2 && s[i] != 1 && s[i] != 2 {
			return none, i + 1, e
		}
	}
	if len(s) < 4 {
		return none, 3, api.ErrShort
	}
	n, at, e := plainNumber(s, 4)
	if e != api.OK {
		return none, at, e
	}
	if n > 65536 {
		return none, at, api.ErrLimit
	}
	if n > uint64(len(s)-at) {
		return none, at, api.ErrShort
	}
	end := at + int(n)
	if len(s)-end < 4 {
		return none, end, api.ErrShort
	}
	if s[end:end+4] != plainSum(s[2:end]) {
		return none, end + 4, api.ErrSum
	}
	return api.Frame{Version: s[2], Kind: s[3], Payload: s[at:end]}, end + 4, api.OK
}

// wantPlain holds the readings of a text against the plain one.
func wantPlain(t *testing.T, k *frame.Coder, s string) {
	t.Helper()
	want, at, e := plainTake(s)
	c := cursor.New(s)
	if f := k.Take(c); f != want || c.At() != at || c.Err() != e {
		t.Fatalf("Take of %q: version %d, kind %d, %q, at %d, error %d; not at %d, error %d", s, f.Version, f.Kind, f.Payload, c.At(), c.Err(), at, e)
	}
	size := at
	if e != api.OK {
		size = 0
	}
	if f, n, got := k.Decode(s); f != want || n != size || got != e {
		t.Fatalf("Decode of %q: version %d, kind %d, %q, %d, error %d; not %d, error %d", s, f.Version, f.Kind, f.Payload, n, got, size, e)
	}
	if e != api.OK {
		return
	}
	if again, e := k.Encode(want); again != s[:size] || e != api.OK {
		t.Fatalf("%q is read as a frame, and written as %q, error %d", s[:size], again, e)
	}
}

// rows are all rows of up to k elements.
func rows[T any](of []T, k int) [][]T {
	all := [][]T{nil}
	for from := 0; k > 0; k-- {
		to := len(all)
		for _, row := range all[from:to] {
			for _, x := range of {
				all = append(all, append(append([]T{}, row...), x))
			}
		}
		from = to
	}
	return all
}

// TestAllShortTexts holds the readings of all texts of up to two bytes, alone and behind beginnings of a frame, against the plain one.
func TestAllShortTexts(t *testing.T) {
	var all []byte
	for i := range 256 {
		all = append(all, byte(i))
	}
	k := frame.New()
	for _, b := range rows(all, 2) {
		for _, ahead := range []string{"", "\xd7", "\xd7\x4e", "\xd7\x4e\x01", "\xd7\x4e\x02\x00"} {
			wantPlain(t, k, ahead+string(b))
		}
	}
}

// TestAllRowsOfEdgeBytes is of longer texts, with the right sum behind them too.
func TestAllRowsOfEdgeBytes(t *testing.T) {
	k := frame.New()
	for _, b := range rows([]byte{0, 1, 2, 4, 127, 128, 215, 255}, 5) {
		for _, ahead := range []string{"", "\xd7\x4e", "\xd7\x4e\x02\xff", "\xd7\x4e\x01\x00\x80\x80"} {
			s := ahead + string(b)
			wantPlain(t, k, s)
			if len(s) >= 2 {
				wantPlain(t, k, s+plainSum(s[2:]))
			}
		}
	}
}

// TestEachByteAtEachPlace holds a frame with any byte at any place, one byte short, whole, and with one behind it, against the plain reading.
func TestEachByteAtEachPlace(t *testing.T) {
	k := frame.New()
	s := plainEncode(api.Frame{Version: 2, Kind: 8, Payload: "spence"})
	for at := range len(s) {
		for b := range 256 {
			for _, end := range []int{len(s) - 1, len(s), len(s) + 1} {
				wantPlain(t, k, (spoiled(s, at, byte(b)) + "x")[:end])
			}
		}
	}
}

// TestTextsOfAnyBytes holds the readings of long texts that follow a rule, those with pieces of frames within them too, against the plain one.
func TestTextsOfAnyBytes(t *testing.T) {
	k := frame.New()
	x := uint32(1)
	next := func() byte {
		x = x*1664525 + 1013904223
		return byte(x >> 24)
	}
	for range 20000 {
		b := make([]byte, next()%40)
		for i := range b {
			b[i] = next()
		}
		s := string(b)
		right := plainEncode(api.Frame{Version: 1 + next()%2, Kind: next(), Payload: s})
		wantPlain(t, k, s)
		wantPlain(t, k, right+s)
		wantPlain(t, k, right[:int(next())%len(right)]+s)
		wantPlain(t, k, right[:4]+s)
		wantPlain(t, k, spoiled(right, int(next())%len(right), next())+s)
	}
}

// call is one call of a coder, which tells whether its answer is right.
type call struct {
	name string
	ask  func(*frame.Coder) bool
}

func calls() []call {
	f := api.Frame{Version: 2, Kind: 1, Payload: "a"}
	s := plainEncode(f)
	return []call{
		{"Encode", func(k *frame.Coder) bool { got, e := k.Encode(f); return got == s && e == api.OK }},
		{"Encode of no version", func(k *frame.Coder) bool {
			got, e := k.Encode(api.Frame{Payload: "a"})
			return got == "" && e == api.ErrVersion
		}},
		{"Encode of too much", func(k *frame.Coder) bool {
			got, e := k.Encode(api.Frame{Version: 1, Payload: long(65537)})
			return got == "" && e == api.ErrLimit
		}},
		{"Decode", func(k *frame.Coder) bool { got, n, e := k.Decode(s + "b"); return got == f && n == 10 && e == api.OK }},
		{"Decode of a beginning", func(k *frame.Coder) bool { _, n, e := k.Decode(s[:9]); return n == 0 && e == api.ErrShort }},
		{"Decode of another sum", func(k *frame.Coder) bool { _, n, e := k.Decode(s[:9] + "x"); return n == 0 && e == api.ErrSum }},
		{"Take", func(k *frame.Coder) bool { c := cursor.New(s); return k.Take(c) == f && c.End() == api.OK }},
		{"Take at nil", func(k *frame.Coder) bool { return k.Take(nil) == api.Frame{} }},
	}
}

// TestAllRowsOfCalls is of all rows of four calls: each answer hangs on its own call alone.
func TestAllRowsOfCalls(t *testing.T) {
	for _, m := range makers() {
		for _, row := range rows(calls(), 4) {
			k := m.make()
			for i, c := range row {
				if !c.ask(k) {
					t.Fatalf("%s, call %d: %s", m.name, i, c.name)
				}
			}
		}
	}
}
