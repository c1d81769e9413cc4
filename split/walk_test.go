package split_test

import (
	"encoding/binary"
	"hash/crc32"
	"slices"
	"testing"

	"spence/api"
	"spence/split"
)

// plainSum are the bytes of a text's sum, by another library's sums.
func plainSum(s string) string {
	return string(binary.BigEndian.AppendUint32(nil, crc32.ChecksumIEEE([]byte(s))))
}

// plainEncode are a frame's bytes as the chapter's words say it, with no limit and any version.
func plainEncode(f api.Frame) string {
	body := text(f.Version, f.Kind) + string(binary.AppendUvarint(nil, uint64(len(f.Payload)))) + f.Payload
	return "\xd7\x4e" + body + plainSum(body)
}

// plainNumber reads a number from a place on: the number, the place behind it, and the error.
func plainNumber(s string, at int) (uint64, int, api.Errno) {
	n := uint64(0)
	for i := 0; ; i++ {
		switch {
		case at+i >= len(s):
			return 0, 0, api.ErrShort
		case i == 9 && s[at+i] > 1:
			return 0, 0, api.ErrOver
		case i != 0 && s[at+i] == 0:
			return 0, 0, api.ErrMinimal
		}
		n += uint64(s[at+i]%128) << (7 * i)
		if s[at+i] < 128 {
			return n, at + i + 1, api.OK
		}
	}
}

// plainFrame reads a frame from a place on, as layer 7's words say it: the frame, the place behind it, and the error.
func plainFrame(s string, from int) (api.Frame, int, api.Errno) {
	none := api.Frame{}
	for i, e := range []api.Errno{api.ErrMagic, api.ErrMagic, api.ErrVersion, api.OK} {
		if from+i >= len(s) {
			return none, 0, api.ErrShort
		}
		if b := s[from+i]; i == 0 && b != 215 || i == 1 && b != 78 || i == 2 && b != 1 && b != 2 {
			return none, 0, e
		}
	}
	n, at, e := plainNumber(s, from+4)
	switch {
	case e != api.OK:
		return none, 0, e
	case n > 65536:
		return none, 0, api.ErrLimit
	case len(s) < at+int(n)+4:
		return none, 0, api.ErrShort
	}
	end := at + int(n)
	if s[end:end+4] != plainSum(s[from+2:end]) {
		return none, 0, api.ErrSum
	}
	return api.Frame{Version: s[from+2], Kind: s[from+3], Payload: s[at:end]}, end + 4, api.OK
}

// plainApart takes a text apart as the chapter's words say it: the frames, the places at which they begin, the bytes that are left, and the error.
func plainApart(s string) ([]api.Frame, []int, int, api.Errno) {
	var l []api.Frame
	var starts []int
	at := 0
	for at < len(s) {
		f, next, e := plainFrame(s, at)
		if e == api.ErrShort {
			return l, starts, len(s) - at, api.OK
		}
		if e != api.OK {
			return l, starts, len(s) - at, e
		}
		l, starts = append(l, f), append(starts, at)
		at = next
	}
	return l, starts, 0, api.OK
}

// wantPlain holds all readings of a text against the plain ones, and what is joined of its frames against the bytes that they have.
func wantPlain(t *testing.T, s string) {
	t.Helper()
	want, starts, left, we := plainApart(s)
	l, n, e := split.All(s)
	if !slices.Equal(l, want) || n != left || e != we {
		t.Fatalf("All of %q: %q, %d, error %d; not %q, %d, error %d", s, l, n, e, want, left, we)
	}
	if at := split.Starts(s); !slices.Equal(at, starts) {
		t.Fatalf("Starts of %q: %v, not %v", s, at, starts)
	}
	_, _, first := plainFrame(s, 0)
	if b := split.Begins(s); b != (first == api.ErrShort) {
		t.Fatalf("Begins of %q: %v", s, b)
	}
	if joined, at, e := split.Join(l...); joined != s[:len(s)-n] || at != 0 || e != api.OK {
		t.Fatalf("the frames of %q are joined to %q, %d, error %d", s, joined, at, e)
	}
}

// rows are all rows of up to k elements.
func rows[T any](of []T, k int) [][]T {
	all := [][]T{nil}
	for from := 0; k > 0; k-- {
		to := len(all)
		for _, row := range all[from:to] {
			for _, x := range of {
				all = append(all, append(append([]T{}, row...), x))
			}
		}
		from = to
	}
	return all
}

// TestAllShortTexts holds the readings of all texts of up to two bytes, alone, behind beginnings, and behind frames, against the plain ones.
func TestAllShortTexts(t *testing.T) {
	var all []byte
	for i := range 256 {
		all = append(all, byte(i))
	}
	one := knowns()[1].s
	for _, b := range rows(all, 2) {
		for _, ahead := range []string{"", "\xd7", "\xd7\x4e\x02\x00", one, one + "\xd7\x4e\x01", one + one[:8]} {
			wantPlain(t, ahead+string(b))
		}
	}
}

// TestAllRowsOfPieces holds the readings of all rows of five pieces (frames, beginnings, ends, and other bytes) against the plain ones.
func TestAllRowsOfPieces(t *testing.T) {
	k := knowns()
	pieces := []string{k[0].s, k[1].s, k[0].s[:5], k[0].s[5:], k[3].s[:8], "\xd7", "\x4e", "\xd7\x4e\x03", "\xd7\x4e\x02\x00\x80\x00", spoiled(k[1].s, 8, 0), "x"}
	for _, row := range rows(pieces, 5) {
		s := ""
		for _, x := range row {
			s += x
		}
		wantPlain(t, s)
	}
}

// TestEachByteAtEachPlace holds two frames with any byte at any place, whole and cut short by some bytes, against the plain readings.
func TestEachByteAtEachPlace(t *testing.T) {
	s := plainEncode(api.Frame{Version: 2, Kind: 8, Payload: "spence"}) + knowns()[0].s
	for at := range len(s) {
		for b := range 256 {
			for _, end := range []int{len(s) - 9, len(s) - 1, len(s), len(s) + 1} {
				wantPlain(t, (spoiled(s, at, byte(b)) + "x")[:end])
			}
		}
	}
}

// TestTextsOfAnyBytes holds the readings of texts that follow a rule, with frames within them too, against the plain ones.
func TestTextsOfAnyBytes(t *testing.T) {
	x := uint32(1)
	next := func() byte {
		x = x*1664525 + 1013904223
		return byte(x >> 24)
	}
	any := func() string {
		b := make([]byte, next()%40)
		for i := range b {
			b[i] = next()
		}
		return string(b)
	}
	for range 4000 {
		right := ""
		for range next() % 5 {
			right += plainEncode(api.Frame{Version: 1 + next()%2, Kind: next(), Payload: any()})
		}
		wantPlain(t, any())
		wantPlain(t, right+any())
		wantPlain(t, right[:int(next())%(len(right)+1)]+any())
		if len(right) > 0 {
			wantPlain(t, spoiled(right, int(next())%len(right), next())+any())
		}
	}
}

// plainJoin joins frames as the chapter's words say it.
func plainJoin(l []api.Frame) (string, int, api.Errno) {
	all := ""
	for i, f := range l {
		if f.Version != 1 && f.Version != 2 {
			return "", i, api.ErrVersion
		}
		if len(f.Payload) > 65536 {
			return "", i, api.ErrLimit
		}
		all += plainEncode(f)
	}
	return all, 0, api.OK
}

// TestAllRowsOfFrames holds Join of all rows of four frames, right ones and wrong ones, against the plain one; and what is joined, taken apart again.
func TestAllRowsOfFrames(t *testing.T) {
	great := long(api.MaxFrame + 1)
	of := []api.Frame{knowns()[0].f, knowns()[1].f, knowns()[3].f, {Version: 2, Kind: 5, Payload: great[1:]}, {}, {Version: 3, Payload: great}, {Version: 1, Payload: great}}
	for _, row := range rows(of, 4) {
		want, place, we := plainJoin(row)
		s, at, e := split.Join(row...)
		if s != want || at != place || e != we {
			t.Fatalf("%d frames: %.40q, %d, error %d; not %.40q, %d, error %d", len(row), s, at, e, want, place, we)
		}
		if e != api.OK {
			continue
		}
		if l, left, e := split.All(s); !slices.Equal(l, row) || left != 0 || e != api.OK {
			t.Fatalf("%d frames are taken apart into %d, %d left, error %d", len(row), len(l), left, e)
		}
	}
}

// TestWhatDoesNotBeginBecomesNoFrame is of all short texts: one that is no beginning is none with any byte more either.
func TestWhatDoesNotBeginBecomesNoFrame(t *testing.T) {
	for _, ahead := range []string{"", "\xd7\x4e\x02", "\xd7\x4e\x01\x09\x03\xd7\x4e\x02\x6d\x09\x9f"} {
		for _, row := range rows([]byte{0, 1, 2, 128, 139, 215, 78}, 4) {
			s := ahead + string(row)
			if split.Begins(s) {
				continue
			}
			for b := range 256 {
				wantBegins(t, s+text(byte(b)), false)
			}
		}
	}
}
