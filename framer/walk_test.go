package framer_test

import (
	"iter"
	"slices"
	"testing"

	"spence/api"
	"spence/frame"
	"spence/framer"
	"spence/split"
)

// pieces are a text's pieces of so many bytes.
func pieces(s string, size int) iter.Seq[string] {
	return func(yield func(string) bool) {
		for len(s) > 0 {
			n := min(size, len(s))
			if !yield(s[:n]) {
				return
			}
			s = s[n:]
		}
	}
}

// state is what a framer has behind some chunks, as the chapter's words say it: the frames that were told, what is kept, and the error.
type state struct {
	told []api.Frame
	kept string
	err  api.Errno
}

// push gives a chunk, and is the frames that are told of it.
func (x *state) push(chunk string) []api.Frame {
	if x.err != api.OK {
		return nil
	}
	s := x.kept + chunk
	l, left, e := split.All(s)
	x.told, x.kept, x.err = append(x.told, l...), s[len(s)-left:], e
	if e != api.OK {
		x.kept = ""
	}
	return l
}

// wantWhole holds a framer that is given chunks against the chapter's words, chunk by chunk, and what it told against All of all that it was given so far; and Run against All of the whole.
func wantWhole(t *testing.T, chunks []string) {
	t.Helper()
	r := framer.New()
	var x state
	given := ""
	for i, chunk := range chunks {
		given += chunk
		want := x.push(chunk)
		if l := r.Push(chunk); !slices.Equal(l, want) {
			t.Fatalf("%q: of chunk %d %q is told, not %q", chunks, i, l, want)
		}
		wantState(t, r, len(x.kept), len(x.told), x.err)
		l, left, e := split.All(given)
		if e != api.OK {
			left = 0
		}
		if !slices.Equal(x.told, l) || r.Kept() != left || r.Err() != e {
			t.Fatalf("%q: up to chunk %d %q is told, %d kept, error %d; of the whole %q, %d, error %d", chunks, i, x.told, r.Kept(), r.Err(), l, left, e)
		}
		if r.Kept() >= frame.Sends() {
			t.Fatalf("%q: %d bytes are kept", chunks, r.Kept())
		}
	}
	wantRun(t, chunks, x.told, r.Kept(), r.Err())
}

// rows are all rows of up to k elements.
func rows[T any](of []T, k int) [][]T {
	all := [][]T{nil}
	for from := 0; k > 0; k-- {
		to := len(all)
		for _, row := range all[from:to] {
			for _, x := range of {
				all = append(all, append(append([]T{}, row...), x))
			}
		}
		from = to
	}
	return all
}

// TestAllRowsOfChunks is of all rows of four chunks: frames, beginnings, ends, errors, and the empty text.
func TestAllRowsOfChunks(t *testing.T) {
	k := knowns()
	of := []string{"", k[0].s, k[1].s + k[3].s, k[0].s[:5], k[0].s[5:], k[3].s[:8], k[3].s[8:] + k[0].s[:5], "\xd7", "\x4e", "\xd7\x4e\x03", "\xd7\x4e\x02\x00\x80", "\x00", spoiled(k[1].s, 8, 0), "x"}
	for _, row := range rows(of, 4) {
		wantWhole(t, row)
	}
}

// TestAllCuts is of texts of up to 14 bytes, cut in all ways: a bit of a number tells whether there is a cut.
func TestAllCuts(t *testing.T) {
	k := knowns()[1].s
	for _, behind := range []string{"", "\xd7", "\xd7\x4e\x01\x00\x00", "\xd7\x4e\x02\x07", "x", "\xd7\x00\xd7\x4e", "\xd7\x4e\x00", "\xd7\x4e\x02\x80\x00"} {
		for _, s := range []string{k + behind, spoiled(k, 8, 0) + behind, spoiled(k, 4, 1) + behind} {
			for cuts := range 1 << (len(s) - 1) {
				var chunks []string
				from := 0
				for at := 1; at < len(s); at++ {
					if cuts>>(at-1)&1 == 1 {
						chunks, from = append(chunks, s[from:at]), at
					}
				}
				wantWhole(t, append(chunks, s[from:]))
			}
		}
	}
}

// TestEachByteAtEachPlace is of two frames with any byte at any place, cut at each place, and in pieces of some sizes.
func TestEachByteAtEachPlace(t *testing.T) {
	s := knowns()[4].s + knowns()[0].s
	for at := range len(s) {
		for b := range 256 {
			wrong := spoiled(s, at, byte(b))
			for _, cut := range []int{at, at + 1, len(s) - 1} {
				wantWhole(t, []string{wrong[:cut], wrong[cut:]})
			}
			wantWhole(t, slices.Collect(pieces(wrong, 5)))
		}
	}
}

// TestAllShortTexts is of all texts of up to two bytes, byte by byte, behind a beginning, and behind nothing.
func TestAllShortTexts(t *testing.T) {
	var of []byte
	for i := range 256 {
		of = append(of, byte(i))
	}
	for _, b := range rows(of, 2) {
		for _, ahead := range []string{"", "\xd7\x4e\x02\x00"} {
			wantWhole(t, append([]string{ahead}, slices.Collect(pieces(string(b), 1))...))
		}
	}
}

// TestTextsOfAnyBytes is of texts that follow a rule, with frames within them too, cut by a rule.
func TestTextsOfAnyBytes(t *testing.T) {
	x := uint32(1)
	next := func() int {
		x = x*1664525 + 1013904223
		return int(x >> 24)
	}
	any := func() string {
		b := make([]byte, next()%40)
		for i := range b {
			b[i] = byte(next())
		}
		return string(b)
	}
	cut := func(s string) []string {
		var l []string
		for len(s) > 0 {
			n := min(next()%12*(next()%4), len(s))
			l, s = append(l, s[:n]), s[n:]
		}
		return l
	}
	for range 3000 {
		var l []api.Frame
		for range next() % 5 {
			l = append(l, api.Frame{Version: byte(1 + next()%2), Kind: byte(next()), Payload: any()})
		}
		right, _, _ := split.Join(l...)
		wantWhole(t, cut(any()))
		wantWhole(t, cut(right))
		wantWhole(t, cut(right+any()))
		wantWhole(t, cut(right[:next()%(len(right)+1)]+any()))
		if len(right) > 0 {
			wantWhole(t, cut(spoiled(right, next()%len(right), byte(next()))+any()))
		}
	}
}
