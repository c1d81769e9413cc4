package split_test

import (
	"slices"
	"strings"
	"testing"

	"spence/api"
	"spence/frame"
	"spence/split"
)

// long is a text of n bytes that are not all the same.
func long(n int) string {
	return strings.Repeat("0123456789\x00\xff\x80", n/13+1)[:n]
}

// text is a text of these bytes.
func text(l ...byte) string {
	return string(l)
}

// spoiled is a text in which the byte at a place is another one.
func spoiled(s string, at int, b byte) string {
	return s[:at] + text(b) + s[at+1:]
}

// known is a frame, and its bytes, written out.
type known struct {
	f api.Frame
	s string
}

func knowns() []known {
	return []known{
		{api.Frame{Version: 2, Kind: 1, Payload: "a"}, "\xd7\x4e\x02\x01\x01a\xa9\x21\x1d\x2f"},
		{api.Frame{Version: 1, Kind: 0, Payload: ""}, "\xd7\x4e\x01\x00\x00\xfe\x83\xb3\x25"},
		{api.Frame{Version: 2, Kind: 255, Payload: ""}, "\xd7\x4e\x02\xff\x00\x6f\xe1\xf0\x0e"},
		{api.Frame{Version: 1, Kind: 9, Payload: "\xd7\x4e\x02"}, "\xd7\x4e\x01\x09\x03\xd7\x4e\x02\x6d\x09\x9f\x8b"},
		{api.Frame{Version: 2, Kind: 7, Payload: "123456789"}, "\xd7\x4e\x02\x07\x09123456789\x6f\x3d\x4b\x31"},
		{api.Frame{Version: 2, Kind: 0, Payload: "\x00\x00\x00\x00"}, "\xd7\x4e\x02\x00\x04\x00\x00\x00\x00\xff\x73\x68\x97"},
	}
}

// greatest is a frame with as long a payload as there is.
func greatest() api.Frame {
	return api.Frame{Version: 2, Kind: 3, Payload: long(api.MaxFrame)}
}

// body is a row of frames, its bytes, and the places at which they begin.
type body struct {
	name   string
	frames []api.Frame
	s      string
	starts []int
}

// more is a row with one frame more behind it.
func (b body) more(t *testing.T, f api.Frame) body {
	t.Helper()
	s, e := frame.New().Encode(f)
	if e != api.OK {
		t.Fatalf("version %d, %d bytes: error %d", f.Version, len(f.Payload), e)
	}
	return body{b.name, append(slices.Clone(b.frames), f), b.s + s, append(slices.Clone(b.starts), len(b.s))}
}

// bodies are rows of no frame, of one, and of many, with the greatest payload at all places.
func bodies(t *testing.T) []body {
	t.Helper()
	all := []body{{name: "none"}}
	for _, k := range knowns() {
		all = append(all, body{"one", []api.Frame{k.f}, k.s, []int{0}})
	}
	many := body{name: "many"}
	for range 3 {
		for _, k := range knowns() {
			many = many.more(t, k.f)
		}
	}
	great := body{name: "the greatest"}.more(t, greatest())
	all = append(all, many, great, great.more(t, knowns()[0].f), many.more(t, greatest()), many.more(t, greatest()).more(t, knowns()[1].f))
	for _, n := range []int{127, 128, 16383, 16384, 65535} {
		all = append(all, body{name: "an edge"}.more(t, api.Frame{Version: 1, Kind: 200, Payload: long(n)}).more(t, knowns()[2].f))
	}
	return all
}

// wantApart holds All and Starts of a text against the frames of a row, the bytes that are left, and an error.
func wantApart(t *testing.T, s string, b body, left int, want api.Errno) {
	t.Helper()
	l, n, e := split.All(s)
	if !slices.Equal(l, b.frames) || n != left || e != want {
		t.Errorf("%s, %.40q: %d frames, %d left, error %d; not %d, %d, %d", b.name, s, len(l), n, e, len(b.frames), left, want)
	}
	if at := split.Starts(s); !slices.Equal(at, b.starts) {
		t.Errorf("%s, %.40q: the frames begin at %v, not at %v", b.name, s, at, b.starts)
	}
}

// fault is a text that is neither a frame's beginning nor begins with one, and the error.
type fault struct {
	s string
	e api.Errno
}

// faults are texts with each of the other errors, at all edges.
func faults() []fault {
	k := knowns()[0].s
	l := []fault{
		{"\x00", api.ErrMagic}, {"\x4e\xd7", api.ErrMagic}, {"x", api.ErrMagic}, {k[1:], api.ErrMagic}, {"\xd6" + k[1:], api.ErrMagic}, {"\x00" + k, api.ErrMagic},
		{"\xd7\x4f", api.ErrMagic}, {"\xd7\xd7", api.ErrMagic}, {"\xd7\x4d" + k[2:], api.ErrMagic}, {"\xd7" + k, api.ErrMagic},
		{"\xd7\x4e\x00", api.ErrVersion}, {"\xd7\x4e\x03", api.ErrVersion}, {"\xd7\x4e\x07abc", api.ErrVersion}, {spoiled(k, 2, 255), api.ErrVersion}, {"\xd7\x4e" + k, api.ErrVersion},
		{"\xd7\x4e\x01\x00\x80\x00", api.ErrMinimal}, {"\xd7\x4e\x02\x01\x81\x00a\xa9\x21\x1d\x2f", api.ErrMinimal}, {"\xd7\x4e\x02\x01\x80\x80\x00", api.ErrMinimal},
		{"\xd7\x4e\x01\x00\x81\x80\x04", api.ErrLimit}, {"\xd7\x4e\x02\xff\x81\x80\x04" + long(65545), api.ErrLimit}, {"\xd7\x4e\x02\xff" + strings.Repeat("\xff", 9) + "\x01", api.ErrLimit},
		{"\xd7\x4e\x02\xff" + strings.Repeat("\xff", 9) + "\x02", api.ErrOver}, {"\xd7\x4e\x01\x00" + strings.Repeat("\x80", 40), api.ErrOver},
		{spoiled(k, 9, 0x2e), api.ErrSum}, {spoiled(k, 6, 0), api.ErrSum}, {spoiled(k, 5, 'b'), api.ErrSum}, {spoiled(k, 2, 1), api.ErrSum}, {spoiled(k, 3, 0), api.ErrSum}, {spoiled(k, 4, 0), api.ErrSum},
	}
	return l
}

// P8.1: All and Starts

func TestApartOfTheEmptyText(t *testing.T) {
	wantApart(t, "", body{name: "none"}, 0, api.OK)
}

func TestApartOfFramesWithNothingBehind(t *testing.T) {
	for _, b := range bodies(t) {
		wantApart(t, b.s, b, 0, api.OK)
	}
}

func TestApartOfKnownBytes(t *testing.T) {
	k := knowns()
	s := k[0].s + k[1].s + k[3].s
	wantApart(t, s, body{"written out", []api.Frame{k[0].f, k[1].f, k[3].f}, s, []int{0, 10, 19}}, 0, api.OK)
}

func TestApartWithEveryBeginningBehind(t *testing.T) {
	last := []string{long(0), long(1), long(127), long(128), long(300)}
	for _, b := range bodies(t) {
		for _, payload := range last {
			f := api.Frame{Version: 1, Kind: 9, Payload: payload}
			whole := b.more(t, f)
			for left := range len(whole.s) - len(b.s) {
				wantApart(t, whole.s[:len(b.s)+left], b, left, api.OK)
			}
			wantApart(t, whole.s, whole, 0, api.OK)
		}
	}
}

func TestApartWithBeginningsOfTheGreatestBehind(t *testing.T) {
	for _, b := range bodies(t)[:8] {
		whole := b.more(t, greatest())
		size := len(whole.s) - len(b.s)
		for left := range size {
			if left < 20 || left > size-20 || left%977 == 0 {
				wantApart(t, whole.s[:len(b.s)+left], b, left, api.OK)
			}
		}
	}
}

// TestApartOfEveryBeginningOfMany is of a text that is cut at each place: what is whole is told, and what isn't is left.
func TestApartOfEveryBeginningOfMany(t *testing.T) {
	for _, b := range bodies(t)[:8] {
		for size := range len(b.s) + 1 {
			n := 0
			for n < len(b.starts) && (n+1 < len(b.starts) && b.starts[n+1] <= size || size == len(b.s)) {
				n++
			}
			at := len(b.s)
			if n < len(b.starts) {
				at = b.starts[n]
			}
			wantApart(t, b.s[:size], body{b.name, b.frames[:n], b.s[:at], b.starts[:n]}, size-at, api.OK)
		}
	}
}

// TestApartWithAnErrorBehind is also of no frames ahead of it, and of frames behind it, which aren't looked at.
func TestApartWithAnErrorBehind(t *testing.T) {
	for _, b := range bodies(t) {
		for _, x := range faults() {
			for _, behind := range []string{"", "\x00", "\xd7", knowns()[0].s, knowns()[1].s + "x"} {
				wrong := x.s + behind
				wantApart(t, b.s+wrong, b, len(wrong), x.e)
			}
		}
	}
}

func TestApartOfEachWrongByte(t *testing.T) {
	ahead := body{name: "two"}.more(t, knowns()[4].f).more(t, knowns()[1].f)
	for _, b := range []body{{name: "none"}, ahead} {
		for at, e := range []api.Errno{api.ErrMagic, api.ErrMagic, api.ErrVersion} {
			for x := range 256 {
				if k := knowns()[0].s; byte(x) != k[at] && (at != 2 || x != 1) {
					wrong := spoiled(k, at, byte(x))
					wantApart(t, b.s+wrong, b, len(wrong), e)
					wantApart(t, b.s+wrong[:at+1], b, at+1, e)
				}
			}
		}
	}
}

// TestApartOfTwoErrors is of texts at which the first one is told, and what is left is counted from there on.
func TestApartOfTwoErrors(t *testing.T) {
	for _, b := range bodies(t)[:8] {
		for _, x := range faults() {
			for _, y := range faults() {
				wrong := x.s + knowns()[2].s + y.s
				wantApart(t, b.s+wrong, b, len(wrong), x.e)
			}
		}
	}
}

// TestApartOfASpoiledFrameAmongMany is of each frame of a row in turn, at its sum's last byte.
func TestApartOfASpoiledFrameAmongMany(t *testing.T) {
	for _, b := range bodies(t) {
		for n, at := range b.starts {
			end := len(b.s)
			if n+1 < len(b.starts) {
				end = b.starts[n+1]
			}
			wrong := spoiled(b.s, end-1, ^b.s[end-1])
			wantApart(t, wrong, body{b.name, b.frames[:n], b.s[:at], b.starts[:n]}, len(b.s)-at, api.ErrSum)
		}
	}
}

func TestStartsRiseAndAreAsManyAsTheFrames(t *testing.T) {
	for _, b := range bodies(t) {
		for _, behind := range []string{"", "\xd7", "\xd7\x4e\x02\x01\x01", "x", spoiled(knowns()[0].s, 9, 0)} {
			l, _, _ := split.All(b.s + behind)
			at := split.Starts(b.s + behind)
			if len(at) != len(l) || len(l) != len(b.frames) {
				t.Fatalf("%s: %d places of %d frames", b.name, len(at), len(l))
			}
			for i := range at {
				if i > 0 && at[i] <= at[i-1] {
					t.Errorf("%s: the places %v don't rise", b.name, at)
				}
				if f, _, e := frame.New().Decode(b.s[at[i]:]); f != l[i] || e != api.OK {
					t.Errorf("%s: at %d another frame begins, error %d", b.name, at[i], e)
				}
			}
		}
	}
}

// TestWhatIsToldIsNew is since what is answered may be written over.
func TestWhatIsToldIsNew(t *testing.T) {
	s := knowns()[0].s + knowns()[1].s + knowns()[2].s
	l, _, _ := split.All(s)
	at := split.Starts(s)
	clear(l)
	clear(at)
	_, _ = append(l, api.Frame{Kind: 7}), append(at, -1)
	wantApart(t, s, body{"again", []api.Frame{knowns()[0].f, knowns()[1].f, knowns()[2].f}, s, []int{0, 10, 19}}, 0, api.OK)
}

// P8.2: Join

// wantJoined holds Join of frames against a text.
func wantJoined(t *testing.T, want string, l ...api.Frame) {
	t.Helper()
	if s, at, e := split.Join(l...); s != want || at != 0 || e != api.OK {
		t.Errorf("%d frames: %.40q, %d, error %d, not %.40q", len(l), s, at, e, want)
	}
}

// wantNotJoined holds Join of frames against a place and an error.
func wantNotJoined(t *testing.T, at int, want api.Errno, l ...api.Frame) {
	t.Helper()
	if s, got, e := split.Join(l...); s != "" || got != at || e != want {
		t.Errorf("%d frames: %.40q, %d, error %d, not %d, error %d", len(l), s, got, e, at, want)
	}
}

func TestJoin(t *testing.T) {
	wantJoined(t, "")
	wantJoined(t, "", []api.Frame{}...)
	for _, a := range knowns() {
		wantJoined(t, a.s, a.f)
		for _, b := range knowns() {
			wantJoined(t, a.s+b.s, a.f, b.f)
			wantJoined(t, a.s+b.s+a.s, a.f, b.f, a.f)
		}
	}
	for _, b := range bodies(t) {
		wantJoined(t, b.s, b.frames...)
	}
}

// wrongs are frames that have no bytes, and their errors.
func wrongs() map[api.Errno][]api.Frame {
	return map[api.Errno][]api.Frame{
		api.ErrVersion: {{}, {Version: 3, Kind: 1, Payload: "a"}, {Version: 255}, {Version: 0, Payload: long(api.MaxFrame + 1)}},
		api.ErrLimit:   {{Version: 1, Payload: long(api.MaxFrame + 1)}, {Version: 2, Kind: 255, Payload: long(2 * api.MaxFrame)}},
	}
}

func TestJoinWhereOneHasNoBytes(t *testing.T) {
	for _, b := range bodies(t) {
		for e, l := range wrongs() {
			for _, wrong := range l {
				for at := range len(b.frames) + 1 {
					wantNotJoined(t, at, e, slices.Insert(slices.Clone(b.frames), at, wrong)...)
				}
			}
		}
	}
}

func TestJoinWhereTwoHaveNoBytes(t *testing.T) {
	none, great := api.Frame{Kind: 1}, api.Frame{Version: 2, Payload: long(api.MaxFrame + 1)}
	a, b := knowns()[0].f, knowns()[1].f
	wantNotJoined(t, 0, api.ErrVersion, none, great)
	wantNotJoined(t, 0, api.ErrLimit, great, none)
	wantNotJoined(t, 0, api.ErrLimit, great, great)
	wantNotJoined(t, 0, api.ErrVersion, none, a, great)
	wantNotJoined(t, 1, api.ErrLimit, a, great, none, b)
	wantNotJoined(t, 1, api.ErrVersion, a, none, b, great)
	wantNotJoined(t, 2, api.ErrVersion, b, a, none, great)
	wantNotJoined(t, 2, api.ErrLimit, b, a, great, a, b, none)
}

// TestJoinLeavesWhatItIsHanded is of a list with more memory behind its length.
func TestJoinLeavesWhatItIsHanded(t *testing.T) {
	k := knowns()
	whole := []api.Frame{k[0].f, k[1].f, {}, k[2].f}
	kept := slices.Clone(whole)
	wantJoined(t, k[0].s+k[1].s, whole[:2]...)
	wantNotJoined(t, 2, api.ErrVersion, whole[:3]...)
	if !slices.Equal(whole, kept) {
		t.Error("the list is another one")
	}
}

// P8.2: Begins

// wantBegins holds Begins of a text.
func wantBegins(t *testing.T, s string, want bool) {
	t.Helper()
	if got := split.Begins(s); got != want {
		t.Errorf("%.40q (%d bytes): %v", s, len(s), got)
	}
}

func TestBeginsOfEveryBeginning(t *testing.T) {
	wantBegins(t, "", true)
	for _, b := range bodies(t) {
		for i, f := range b.frames {
			s := b.s[b.starts[i]:][:frame.Room(len(f.Payload))]
			for size := range len(s) {
				if size < 400 || size > len(s)-20 || size%977 == 0 {
					wantBegins(t, s[:size], true)
				}
			}
			wantBegins(t, s, false)
			for _, behind := range []string{"\x00", "x", "\xd7", "\xd7\x4e\x02", "\xff\xff\xff\xff", s} {
				wantBegins(t, s+behind, false)
			}
		}
	}
}

func TestBeginsOfTextsWithErrors(t *testing.T) {
	for _, x := range faults() {
		for _, behind := range []string{"", "\x00", "\xd7\x4e", knowns()[0].s, long(300)} {
			wantBegins(t, x.s+behind, false)
		}
	}
	for x := range 256 {
		wantBegins(t, text(byte(x)), x == 215)
		wantBegins(t, text(215, byte(x)), x == 78)
		wantBegins(t, text(215, 78, byte(x)), x == 1 || x == 2)
		wantBegins(t, text(215, 78, 1, byte(x)), true)
		wantBegins(t, text(215, 78, 2, 0, byte(x)), true)
		wantBegins(t, text(215, 78, 2, 0, 128, byte(x)), x != 0)
		wantBegins(t, text(215, 78, 2, 0, 128, 128, byte(x)), x != 0 && (x <= 4 || x >= 128))
		wantBegins(t, text(215, 78, 2, 0, 129, 128, byte(x)), x != 0 && (x <= 3 || x >= 128))
	}
}

// TestBeginsOfANumberThatIsLeftOpen is of numbers that are too great already, whose bytes aren't all there: reading one tells ErrShort.
func TestBeginsOfANumberThatIsLeftOpen(t *testing.T) {
	for n := range 10 {
		wantBegins(t, "\xd7\x4e\x02\x00"+strings.Repeat("\xff", n), true)
		wantBegins(t, "\xd7\x4e\x01\x01"+strings.Repeat("\x80", n), true)
	}
	wantBegins(t, "\xd7\x4e\x02\x00"+strings.Repeat("\xff", 10), false)
}

// P8.3

func TestWhatIsJoinedIsTakenApart(t *testing.T) {
	for _, b := range bodies(t) {
		for _, c := range bodies(t) {
			l := append(slices.Clone(b.frames), c.frames...)
			s, at, e := split.Join(l...)
			if at != 0 || e != api.OK || s != b.s+c.s {
				t.Fatalf("%s and %s: %d, error %d", b.name, c.name, at, e)
			}
			got, left, e := split.All(s)
			if !slices.Equal(got, l) || left != 0 || e != api.OK {
				t.Errorf("%s and %s: %d frames, not %d; %d left, error %d", b.name, c.name, len(got), len(l), left, e)
			}
		}
	}
}

func TestManyFramesAreTakenApart(t *testing.T) {
	var l []api.Frame
	for i := range 5000 {
		l = append(l, api.Frame{Version: byte(1 + i%2), Kind: byte(i), Payload: long(i % 400)})
	}
	s, _, e := split.Join(l...)
	if e != api.OK {
		t.Fatal(e)
	}
	got, left, e := split.All(s)
	if !slices.Equal(got, l) || left != 0 || e != api.OK {
		t.Errorf("%d frames, %d left, error %d", len(got), left, e)
	}
}
