package framer_test

import (
	"slices"
	"strings"
	"testing"

	"spence/api"
	"spence/frame"
	"spence/framer"
	"spence/split"
)

// long is a text of n bytes that are not all the same.
func long(n int) string {
	return strings.Repeat("0123456789\x00\xff\x80", n/13+1)[:n]
}

// spoiled is a text in which the byte at a place is another one.
func spoiled(s string, at int, b byte) string {
	return s[:at] + string([]byte{b}) + s[at+1:]
}

// known is a frame, and its bytes, written out.
type known struct {
	f api.Frame
	s string
}

func knowns() []known {
	return []known{
		{api.Frame{Version: 2, Kind: 1, Payload: "a"}, "\xd7\x4e\x02\x01\x01a\xa9\x21\x1d\x2f"},
		{api.Frame{Version: 1, Kind: 0, Payload: ""}, "\xd7\x4e\x01\x00\x00\xfe\x83\xb3\x25"},
		{api.Frame{Version: 2, Kind: 255, Payload: ""}, "\xd7\x4e\x02\xff\x00\x6f\xe1\xf0\x0e"},
		{api.Frame{Version: 1, Kind: 9, Payload: "\xd7\x4e\x02"}, "\xd7\x4e\x01\x09\x03\xd7\x4e\x02\x6d\x09\x9f\x8b"},
		{api.Frame{Version: 2, Kind: 7, Payload: "123456789"}, "\xd7\x4e\x02\x07\x09123456789\x6f\x3d\x4b\x31"},
		{api.Frame{Version: 2, Kind: 0, Payload: "\x00\x00\x00\x00"}, "\xd7\x4e\x02\x00\x04\x00\x00\x00\x00\xff\x73\x68\x97"},
	}
}

// all are the known frames, and their bytes, one behind the other.
func all() ([]api.Frame, string) {
	var l []api.Frame
	s := ""
	for _, k := range knowns() {
		l, s = append(l, k.f), s+k.s
	}
	return l, s
}

// greatest is a frame with as long a payload as there is, and its bytes.
func greatest(t *testing.T) known {
	t.Helper()
	f := api.Frame{Version: 2, Kind: 3, Payload: long(api.MaxFrame)}
	s, e := frame.New().Encode(f)
	if e != api.OK || len(s) != frame.Sends() {
		t.Fatalf("%d bytes, error %d", len(s), e)
	}
	return known{f, s}
}

// fault is a text whose last byte alone tells that no frame begins with it, and the error.
type fault struct {
	s string
	e api.Errno
}

// faults are texts with each of the other errors, at all edges.
func faults() []fault {
	k := knowns()[0].s
	return []fault{
		{"\x00", api.ErrMagic}, {"x", api.ErrMagic}, {"\xd6", api.ErrMagic}, {"\x4e", api.ErrMagic},
		{"\xd7\x4f", api.ErrMagic}, {"\xd7\xd7", api.ErrMagic}, {"\xd7\x00", api.ErrMagic},
		{"\xd7\x4e\x00", api.ErrVersion}, {"\xd7\x4e\x03", api.ErrVersion}, {"\xd7\x4e\xff", api.ErrVersion}, {"\xd7\x4e\xd7", api.ErrVersion},
		{"\xd7\x4e\x01\x00\x80\x00", api.ErrMinimal}, {"\xd7\x4e\x02\x01\x81\x00", api.ErrMinimal}, {"\xd7\x4e\x02\x01\x80\x80\x00", api.ErrMinimal},
		{"\xd7\x4e\x01\x00\x81\x80\x04", api.ErrLimit}, {"\xd7\x4e\x02\xff\x80\x80\x80\x01", api.ErrLimit}, {"\xd7\x4e\x02\xff" + strings.Repeat("\xff", 9) + "\x01", api.ErrLimit},
		{"\xd7\x4e\x02\xff" + strings.Repeat("\xff", 9) + "\x02", api.ErrOver}, {"\xd7\x4e\x01\x00" + strings.Repeat("\x80", 10), api.ErrOver},
		{spoiled(k, 9, 0x2e), api.ErrSum}, {spoiled(k, 6, 0), api.ErrSum}, {spoiled(k, 5, 'b'), api.ErrSum}, {spoiled(k, 2, 1), api.ErrSum}, {spoiled(k, 3, 0), api.ErrSum}, {spoiled(k, 4, 0)[:9], api.ErrSum},
	}
}

// wantState holds what a framer has against how many bytes are kept, how many frames were told, and an error.
func wantState(t *testing.T, r *framer.Framer, kept, told int, want api.Errno) {
	t.Helper()
	if r.Kept() != kept || r.Told() != told || r.Err() != want {
		t.Fatalf("%d kept, %d told, error %d; not %d, %d, error %d", r.Kept(), r.Told(), r.Err(), kept, told, want)
	}
}

// wantTold holds what is told of a chunk that is pushed against frames.
func wantTold(t *testing.T, r *framer.Framer, chunk string, want ...api.Frame) {
	t.Helper()
	if l := r.Push(chunk); !slices.Equal(l, want) {
		t.Fatalf("of %.40q (%d bytes): %.200q, not %.200q", chunk, len(chunk), l, want)
	}
}

// wantNoMore pushes many things to a framer with an error: nothing is told, and nothing kept.
func wantNoMore(t *testing.T, r *framer.Framer, told int, want api.Errno) {
	t.Helper()
	_, right := all()
	for _, chunk := range []string{"", "\xd7", "\xd7\x4e", right, right[:3], right[3:], "x", "", long(300)} {
		wantTold(t, r, chunk)
		wantState(t, r, 0, told, want)
	}
	for i := range 20 {
		wantTold(t, r, right[i:i+1])
		wantState(t, r, 0, told, want)
	}
}

// wantRun holds Run of chunks against frames, how many bytes are kept, and an error.
func wantRun(t *testing.T, chunks []string, want []api.Frame, kept int, we api.Errno) {
	t.Helper()
	if l, n, e := framer.Run(chunks...); !slices.Equal(l, want) || n != kept || e != we {
		t.Fatalf("%.200q: %d frames, %d kept, error %d; not %d, %d, error %d", chunks, len(l), n, e, len(want), kept, we)
	}
}

// P9.1

func TestAheadOfAnyChunk(t *testing.T) {
	wantState(t, framer.New(), 0, 0, api.OK)
	var zero framer.Framer
	wantState(t, &zero, 0, 0, api.OK)
	wantState(t, new(framer.Framer), 0, 0, api.OK)
}

func TestAZeroOneIsLikeANewOne(t *testing.T) {
	l, s := all()
	for size := range len(s) + 1 {
		var zero framer.Framer
		r := framer.New()
		for _, chunk := range []string{s[:size], s[size:] + "\xd7"} {
			wantTold(t, &zero, chunk, r.Push(chunk)...)
			wantState(t, &zero, r.Kept(), r.Told(), r.Err())
		}
		wantState(t, &zero, 1, len(l), api.OK)
	}
}

func TestANilOne(t *testing.T) {
	var none *framer.Framer
	wantState(t, none, 0, 0, api.ErrArg)
	wantNoMore(t, none, 0, api.ErrArg)
}

func TestEmptyChunks(t *testing.T) {
	k := knowns()
	r := framer.New()
	wantTold(t, r, "")
	wantState(t, r, 0, 0, api.OK)
	wantTold(t, r, k[0].s[:4])
	for range 3 {
		wantTold(t, r, "")
		wantState(t, r, 4, 0, api.OK)
	}
	wantTold(t, r, k[0].s[4:], k[0].f)
	wantTold(t, r, "")
	wantState(t, r, 0, 1, api.OK)
	wantTold(t, r, k[1].s, k[1].f)
	wantTold(t, r, "")
	wantState(t, r, 0, 2, api.OK)
}

func TestByteByByte(t *testing.T) {
	r := framer.New()
	for told, k := range knowns() {
		last := len(k.s) - 1
		for i := range last {
			wantTold(t, r, k.s[i:i+1])
			wantState(t, r, i+1, told, api.OK)
		}
		wantTold(t, r, k.s[last:], k.f)
		wantState(t, r, 0, told+1, api.OK)
	}
}

func TestAFrameAChunk(t *testing.T) {
	r := framer.New()
	for told, k := range knowns() {
		wantTold(t, r, k.s, k.f)
		wantState(t, r, 0, told+1, api.OK)
	}
}

// TestManyFramesAndABeginning is of one chunk; the beginning's end comes behind it.
func TestManyFramesAndABeginning(t *testing.T) {
	l, s := all()
	for _, k := range knowns() {
		for left := range len(k.s) {
			r := framer.New()
			wantTold(t, r, s+k.s[:left], l...)
			wantState(t, r, left, len(l), api.OK)
			wantTold(t, r, k.s[left:]+s, append([]api.Frame{k.f}, l...)...)
			wantState(t, r, 0, 2*len(l)+1, api.OK)
		}
	}
}

// TestAChunkThatEndsOneAndBeginsAnother is also of chunks that end one, have others whole, and begin another.
func TestAChunkThatEndsOneAndBeginsAnother(t *testing.T) {
	l, s := all()
	for _, a := range knowns() {
		for _, b := range knowns() {
			for i := 1; i < len(a.s); i++ {
				for j := range len(b.s) {
					r := framer.New()
					wantTold(t, r, a.s[:i])
					wantState(t, r, i, 0, api.OK)
					wantTold(t, r, a.s[i:]+b.s[:j], a.f)
					wantState(t, r, j, 1, api.OK)
					wantTold(t, r, b.s[j:]+s+a.s[:i], append([]api.Frame{b.f}, l...)...)
					wantState(t, r, i, 2+len(l), api.OK)
				}
			}
		}
	}
}

// TestAnErrorInOneChunk is of each error in the first frame, and behind others, with and without more behind it.
func TestAnErrorInOneChunk(t *testing.T) {
	l, s := all()
	for _, x := range faults() {
		for _, behind := range []string{"", "\x00", "\xd7\x4e", s, long(300)} {
			r := framer.New()
			wantTold(t, r, x.s+behind)
			wantState(t, r, 0, 0, x.e)
			wantNoMore(t, r, 0, x.e)

			r = framer.New()
			wantTold(t, r, s+x.s+behind, l...)
			wantState(t, r, 0, len(l), x.e)
			wantNoMore(t, r, len(l), x.e)
		}
	}
}

// TestAnErrorInTwoChunks is of each error's bytes, cut at each place: those ahead of the last one are kept till it comes.
func TestAnErrorInTwoChunks(t *testing.T) {
	l, s := all()
	for _, x := range faults() {
		for at := range x.s {
			for _, behind := range []string{"", "\xd7", s} {
				r := framer.New()
				wantTold(t, r, x.s[:at])
				wantState(t, r, at, 0, api.OK)
				wantTold(t, r, x.s[at:]+behind)
				wantState(t, r, 0, 0, x.e)
				wantNoMore(t, r, 0, x.e)

				r = framer.New()
				wantTold(t, r, s+x.s[:at], l...)
				wantState(t, r, at, len(l), api.OK)
				wantTold(t, r, x.s[at:]+behind)
				wantState(t, r, 0, len(l), x.e)
				wantNoMore(t, r, len(l), x.e)
			}
		}
	}
}

// TestAnErrorBehindAFrameThatEnds is of a chunk that ends a frame and has others and an error behind it: they are told with it.
func TestAnErrorBehindAFrameThatEnds(t *testing.T) {
	l, s := all()
	for _, k := range knowns() {
		for _, x := range faults() {
			r := framer.New()
			wantTold(t, r, k.s[:6])
			wantTold(t, r, k.s[6:]+s+x.s+k.s, append([]api.Frame{k.f}, l...)...)
			wantState(t, r, 0, len(l)+1, x.e)
			wantNoMore(t, r, len(l)+1, x.e)
		}
	}
}

// TestTheFirstErrorStays is of a second one, which isn't looked for.
func TestTheFirstErrorStays(t *testing.T) {
	for _, x := range faults() {
		for _, y := range faults() {
			r := framer.New()
			wantTold(t, r, x.s)
			wantTold(t, r, y.s)
			wantState(t, r, 0, 0, x.e)
		}
	}
}

func TestToldOfManyFrames(t *testing.T) {
	r := framer.New()
	l, s := all()
	for i := range 500 {
		wantTold(t, r, s, l...)
		wantState(t, r, 0, (i+1)*len(l), api.OK)
	}
}

func TestTwoFramersHaveNothingInCommon(t *testing.T) {
	k := knowns()
	a, b := framer.New(), framer.New()
	wantTold(t, a, k[0].s[:7])
	wantState(t, b, 0, 0, api.OK)
	wantTold(t, b, k[1].s+k[4].s[:8], k[1].f)
	wantState(t, a, 7, 0, api.OK)
	wantTold(t, a, k[0].s[7:]+"x", k[0].f)
	wantState(t, a, 0, 1, api.ErrMagic)
	wantTold(t, b, k[4].s[8:], k[4].f)
	wantState(t, b, 0, 2, api.OK)
}

// TestWhatIsToldIsNew is since what is answered may be written over and grown.
func TestWhatIsToldIsNew(t *testing.T) {
	l, s := all()
	r := framer.New()
	first := r.Push(s + s[:5])
	kept := slices.Clone(first)
	second := r.Push(s[5:] + s[:9])
	if !slices.Equal(first, kept) || !slices.Equal(first, l) || !slices.Equal(second, l) {
		t.Fatalf("%q, then %q", first, second)
	}
	clear(second)
	_ = append(second[:1], api.Frame{Kind: 7}, api.Frame{Kind: 8})
	if !slices.Equal(first, l) {
		t.Errorf("what was told first became %q", first)
	}
	wantState(t, r, 9, 2*len(l), api.OK)
	wantTold(t, r, s[9:], l...)
}

// P9.2

func TestRunOfNothing(t *testing.T) {
	wantRun(t, nil, nil, 0, api.OK)
	wantRun(t, []string{}, nil, 0, api.OK)
	wantRun(t, []string{""}, nil, 0, api.OK)
	wantRun(t, []string{"", "", ""}, nil, 0, api.OK)
}

func TestRunOfFrames(t *testing.T) {
	l, s := all()
	wantRun(t, []string{s}, l, 0, api.OK)
	wantRun(t, slices.Collect(pieces(s, 1)), l, 0, api.OK)
	wantRun(t, []string{"", s[:20], "", "", s[20:21], s[21:], ""}, l, 0, api.OK)
	wantRun(t, []string{s, s, s}, slices.Concat(l, l, l), 0, api.OK)
	for _, k := range knowns() {
		wantRun(t, []string{k.s}, []api.Frame{k.f}, 0, api.OK)
		for left := range len(k.s) {
			wantRun(t, []string{k.s[:left]}, nil, left, api.OK)
			wantRun(t, []string{s + k.s[:left]}, l, left, api.OK)
			wantRun(t, []string{s, k.s[:left], ""}, l, left, api.OK)
			wantRun(t, []string{s[:7], s[7:], k.s[:left]}, l, left, api.OK)
		}
	}
}

func TestRunWithAnError(t *testing.T) {
	l, s := all()
	for _, x := range faults() {
		wantRun(t, []string{x.s}, nil, 0, x.e)
		wantRun(t, []string{x.s, s, s[:4]}, nil, 0, x.e)
		wantRun(t, []string{s, x.s}, l, 0, x.e)
		wantRun(t, []string{s + x.s + s, s}, l, 0, x.e)
		wantRun(t, []string{s[:30], s[30:] + s + x.s[:1], x.s[1:], "", s[:8], "x"}, slices.Concat(l, l), 0, x.e)
		for _, y := range faults() {
			wantRun(t, []string{s, x.s, s, y.s}, l, 0, x.e)
		}
	}
}

// TestRunLeavesWhatItIsHanded is of a list with more memory behind its length, and of an answer that is written over.
func TestRunLeavesWhatItIsHanded(t *testing.T) {
	l, s := all()
	whole := []string{s[:9], s[9:], "x", s}
	kept := slices.Clone(whole)
	wantRun(t, whole[:2], l, 0, api.OK)
	wantRun(t, whole[:4], l, 0, api.ErrMagic)
	got, _, _ := framer.Run(whole[:2]...)
	clear(got)
	_ = append(got, api.Frame{Kind: 7})
	if !slices.Equal(whole, kept) {
		t.Error("the list is another one")
	}
	wantRun(t, whole[:2], l, 0, api.OK)
}

// P9.3

// TestTheGreatestFrameInPieces is of pieces of some sizes, ahead of and behind another frame.
func TestTheGreatestFrameInPieces(t *testing.T) {
	g, k := greatest(t), knowns()[0]
	for _, size := range []int{1, 2, 13, 997, 4096, 32768, 65536, len(g.s) - 1, len(g.s)} {
		r := framer.New()
		wantTold(t, r, k.s, k.f)
		for at := 0; at < len(g.s); at += size {
			end := min(at+size, len(g.s))
			if end < len(g.s) {
				wantTold(t, r, g.s[at:end])
				wantState(t, r, end, 1, api.OK)
			} else {
				wantTold(t, r, g.s[at:], g.f)
				wantState(t, r, 0, 2, api.OK)
			}
			if r.Kept() >= frame.Sends() {
				t.Fatalf("%d bytes are kept", r.Kept())
			}
		}
		wantTold(t, r, k.s, k.f)
		wantState(t, r, 0, 3, api.OK)
	}
}

// TestTheGreatestFrameSpoiled is of its last byte, which comes alone: no more is kept for it.
func TestTheGreatestFrameSpoiled(t *testing.T) {
	s := greatest(t).s
	last := len(s) - 1
	r := framer.New()
	wantTold(t, r, s[:last])
	wantState(t, r, last, 0, api.OK)
	wantTold(t, r, spoiled(s, last, ^s[last])[last:])
	wantState(t, r, 0, 0, api.ErrSum)
	wantNoMore(t, r, 0, api.ErrSum)
}

// TestLongTextsAreNotKept is of texts of many times the greatest frame: what is kept is but a beginning.
func TestLongTextsAreNotKept(t *testing.T) {
	g := greatest(t)
	whole := strings.Repeat(g.s, 5)
	for _, size := range []int{50000, frame.Sends() - 1, frame.Sends(), frame.Sends() + 1, 200000, len(whole)} {
		r := framer.New()
		var l []api.Frame
		for at := 0; at < len(whole); at += size {
			end := min(at+size, len(whole))
			l = append(l, r.Push(whole[at:end])...)
			wantState(t, r, end%len(g.s), end/len(g.s), api.OK)
		}
		if !slices.Equal(l, []api.Frame{g.f, g.f, g.f, g.f, g.f}) {
			t.Errorf("pieces of %d bytes: %d frames", size, len(l))
		}
	}
}

// cutIntoTwoAndThree are the ways to cut a text once and twice, with empty pieces too.
func cutIntoTwoAndThree(s string) [][]string {
	var l [][]string
	for i := range len(s) + 1 {
		l = append(l, []string{s[:i], s[i:]})
		for j := i; j <= len(s); j++ {
			l = append(l, []string{s[:i], s[i:j], s[j:]})
		}
	}
	return l
}

// TestCutInTwoAndInThree is of some frames with nothing, a beginning, and each error behind them.
func TestCutInTwoAndInThree(t *testing.T) {
	k := knowns()
	s := k[0].s + k[3].s + k[1].s
	want := []api.Frame{k[0].f, k[3].f, k[1].f}
	for _, chunks := range cutIntoTwoAndThree(s) {
		wantRun(t, chunks, want, 0, api.OK)
	}
	for left := range len(k[4].s) {
		for _, chunks := range cutIntoTwoAndThree(s + k[4].s[:left]) {
			wantRun(t, chunks, want, left, api.OK)
		}
	}
	for _, x := range faults() {
		for _, chunks := range cutIntoTwoAndThree(s + x.s + k[2].s) {
			wantRun(t, chunks, want, 0, x.e)
		}
	}
}

// TestJoinedFramesInPieces is of what layer 8 joins.
func TestJoinedFramesInPieces(t *testing.T) {
	var want []api.Frame
	for i := range 300 {
		want = append(want, api.Frame{Version: byte(1 + i%2), Kind: byte(i), Payload: long(i * 7 % 400)})
	}
	s, _, e := split.Join(want...)
	if e != api.OK {
		t.Fatal(e)
	}
	for _, size := range []int{1, 2, 3, 7, 64, 255, 256, 1000, 4096, len(s)} {
		wantRun(t, slices.Collect(pieces(s, size)), want, 0, api.OK)
	}
}
