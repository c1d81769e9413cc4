package frame_test

import (
	"math"
	"strings"
	"testing"

	"spence/api"
	"spence/cursor"
	"spence/frame"
)

// maker is a way to come by a coder.
type maker struct {
	name string
	make func() *frame.Coder
}

// makers are all ways that the chapter names: a new one, and nil.
func makers() []maker {
	return []maker{
		{"new", frame.New},
		{"nil", func() *frame.Coder { return nil }},
	}
}

// anyErrors are errors that a cursor may have, those that aren't named too.
var anyErrors = []api.Errno{api.ErrArg, api.ErrShort, api.ErrMagic, api.ErrVersion, api.ErrSum, api.ErrForm, -1, 19, math.MaxInt, math.MinInt}

// lengths are those of payloads at all edges: where the number gets a byte more, and the greatest.
var lengths = []int{0, 1, 2, 126, 127, 128, 129, 300, 16383, 16384, 16385, 65535, 65536}

// long is a text of n bytes that are not all the same.
func long(n int) string {
	return strings.Repeat("0123456789\x00\xff\x80", n/13+1)[:n]
}

// text is a text of these bytes.
func text(l ...byte) string {
	return string(l)
}

// known is a frame, and its bytes, written out.
type known struct {
	f api.Frame
	s string
}

func knowns() []known {
	return []known{
		{api.Frame{Version: 2, Kind: 1, Payload: "a"}, "\xd7\x4e\x02\x01\x01a\xa9\x21\x1d\x2f"},
		{api.Frame{Version: 1, Kind: 0, Payload: ""}, "\xd7\x4e\x01\x00\x00\xfe\x83\xb3\x25"},
		{api.Frame{Version: 2, Kind: 255, Payload: ""}, "\xd7\x4e\x02\xff\x00\x6f\xe1\xf0\x0e"},
		{api.Frame{Version: 1, Kind: 9, Payload: "\xd7\x4e\x02"}, "\xd7\x4e\x01\x09\x03\xd7\x4e\x02\x6d\x09\x9f\x8b"},
		{api.Frame{Version: 2, Kind: 7, Payload: "123456789"}, "\xd7\x4e\x02\x07\x09123456789\x6f\x3d\x4b\x31"},
		{api.Frame{Version: 2, Kind: 0, Payload: "\x00\x00\x00\x00"}, "\xd7\x4e\x02\x00\x04\x00\x00\x00\x00\xff\x73\x68\x97"},
	}
}

// rights are frames of all versions, of kinds at their edges, and of payloads of all edges.
func rights() []api.Frame {
	var l []api.Frame
	for _, k := range knowns() {
		l = append(l, k.f)
	}
	for _, v := range []byte{1, 2} {
		for _, kind := range []byte{0, 1, 9, 127, 128, 215, 255} {
			for _, n := range lengths {
				l = append(l, api.Frame{Version: v, Kind: kind, Payload: long(n)})
			}
		}
	}
	return l
}

// encoded are a right frame's bytes.
func encoded(t *testing.T, f api.Frame) string {
	t.Helper()
	s, e := frame.New().Encode(f)
	if e != api.OK {
		t.Fatalf("version %d, kind %d, %d bytes: error %d", f.Version, f.Kind, len(f.Payload), e)
	}
	return s
}

// spoiled is a text in which the byte at a place is another one.
func spoiled(s string, at int, b byte) string {
	return s[:at] + text(b) + s[at+1:]
}

// wantRead holds Decode and Take of a text, the latter at a cursor within a greater one too, against a frame of so many bytes.
func wantRead(t *testing.T, m maker, s string, want api.Frame, size int) {
	t.Helper()
	if f, n, e := m.make().Decode(s); f != want || n != size || e != api.OK {
		t.Errorf("%s, Decode of %.40q: kind %d, %d bytes, %d, %d, not %d bytes", m.name, s, f.Kind, len(f.Payload), n, e, size)
	}
	for _, ahead := range []string{"", "a", "\xd7\x4e\x02", "\xd7\x4e\x02\x01\x01a\xa9\x21\x1d\x2f"} {
		c := cursor.New(ahead + s)
		c.Bytes(len(ahead))
		if f := m.make().Take(c); f != want {
			t.Errorf("%s, Take of %.40q behind %q: kind %d, %d bytes", m.name, s, ahead, f.Kind, len(f.Payload))
		}
		if c.At() != len(ahead)+size || c.Err() != api.OK {
			t.Errorf("%s, Take of %.40q behind %q: at %d with the error %d, not at %d", m.name, s, ahead, c.At(), c.Err(), len(ahead)+size)
		}
	}
}

// wantRefused holds Decode and Take of a text, the latter at a cursor within a greater one too, against an error, and the place behind it.
func wantRefused(t *testing.T, m maker, s string, at int, want api.Errno) {
	t.Helper()
	if f, n, e := m.make().Decode(s); f != (api.Frame{}) || n != 0 || e != want {
		t.Errorf("%s, Decode of %.40q: version %d, %d, %d, not error %d", m.name, s, f.Version, n, e, want)
	}
	for _, ahead := range []string{"", "a", "\xd7\x4e\x02"} {
		c := cursor.New(ahead + s)
		c.Bytes(len(ahead))
		if f := m.make().Take(c); f != (api.Frame{}) {
			t.Errorf("%s, Take of %.40q behind %q: version %d, kind %d, %d bytes", m.name, s, ahead, f.Version, f.Kind, len(f.Payload))
		}
		if c.At() != len(ahead)+at || c.Err() != want {
			t.Errorf("%s, Take of %.40q behind %q: at %d with the error %d, not at %d with %d", m.name, s, ahead, c.At(), c.Err(), len(ahead)+at, want)
		}
	}
}

// refusedByAll is wantRefused of all coders.
func refusedByAll(t *testing.T, s string, at int, want api.Errno) {
	t.Helper()
	for _, m := range makers() {
		wantRefused(t, m, s, at, want)
	}
}

// P7.1: New

func TestNewIsACoderEachTime(t *testing.T) {
	a, b := frame.New(), frame.New()
	if a == nil || b == nil {
		t.Fatal("New is nil")
	}
	if a == b {
		t.Error("New told the same coder twice")
	}
}

// P7.1: Encode

func TestEncode(t *testing.T) {
	for _, m := range makers() {
		for _, k := range knowns() {
			if s, e := m.make().Encode(k.f); s != k.s || e != api.OK {
				t.Errorf("%s: %q, error %d, not %q", m.name, s, e, k.s)
			}
		}
	}
}

func TestEncodeOfLongPayloads(t *testing.T) {
	numbers := map[int]string{
		0: "\x00", 1: "\x01", 127: "\x7f", 128: "\x80\x01", 300: "\xac\x02", 16383: "\xff\x7f", 16384: "\x80\x80\x01", 65535: "\xff\xff\x03", 65536: "\x80\x80\x04",
	}
	for _, m := range makers() {
		for n, number := range numbers {
			for _, v := range []byte{1, 2} {
				for _, kind := range []byte{0, 7, 255} {
					want := "\xd7\x4e" + text(v, kind) + number + long(n)
					s, e := m.make().Encode(api.Frame{Version: v, Kind: kind, Payload: long(n)})
					if e != api.OK || len(s) != len(want)+4 || s[:len(want)] != want || s[len(want):] != plainSum(want[2:]) {
						t.Errorf("%s, version %d, kind %d, %d bytes: %.40q, error %d", m.name, v, kind, n, s, e)
					}
				}
			}
		}
	}
}

// wantNone holds Encode of a frame against an error.
func wantNone(t *testing.T, m maker, f api.Frame, want api.Errno) {
	t.Helper()
	if s, e := m.make().Encode(f); s != "" || e != want {
		t.Errorf("%s, version %d, kind %d, %d bytes: %.40q, error %d, not %d", m.name, f.Version, f.Kind, len(f.Payload), s, e, want)
	}
}

func TestEncodeOfEachVersion(t *testing.T) {
	for _, m := range makers() {
		for v := range 256 {
			for _, kind := range []byte{0, 1, 2, 255} {
				f := api.Frame{Version: byte(v), Kind: kind, Payload: "a"}
				if v != 1 && v != 2 {
					wantNone(t, m, f, api.ErrVersion)
				} else if s, e := m.make().Encode(f); e != api.OK || s != plainEncode(f) {
					t.Errorf("%s, version %d: %q, error %d", m.name, v, s, e)
				}
			}
		}
	}
}

func TestEncodeOfEachKind(t *testing.T) {
	for _, m := range makers() {
		for kind := range 256 {
			f := api.Frame{Version: 2, Kind: byte(kind), Payload: "\x00"}
			if s, e := m.make().Encode(f); e != api.OK || s != plainEncode(f) {
				t.Errorf("%s, kind %d: %q, error %d", m.name, kind, s, e)
			}
		}
	}
}

func TestEncodeOfTooLongPayloads(t *testing.T) {
	for _, m := range makers() {
		for _, n := range []int{65537, 65538, 65546, 65547, 65548, 131072, 1 << 20} {
			for _, v := range []byte{1, 2} {
				wantNone(t, m, api.Frame{Version: v, Kind: 3, Payload: long(n)}, api.ErrLimit)
			}
		}
	}
}

// TestEncodeTellsTheVersionFirst is of frames at which both are wrong.
func TestEncodeTellsTheVersionFirst(t *testing.T) {
	for _, m := range makers() {
		for _, v := range []byte{0, 3, 4, 127, 128, 255} {
			for _, n := range []int{0, 1, 65536, 65537, 1 << 20} {
				wantNone(t, m, api.Frame{Version: v, Payload: long(n)}, api.ErrVersion)
			}
		}
	}
	wantNone(t, maker{"new", frame.New}, api.Frame{}, api.ErrVersion)
}

// P7.1: Take and Decode of frames

func TestReadingOfKnownBytes(t *testing.T) {
	for _, m := range makers() {
		for _, k := range knowns() {
			for _, behind := range []string{"", "\x00", "more", "\xd7\x4e", k.s} {
				wantRead(t, m, k.s+behind, k.f, len(k.s))
			}
		}
	}
}

func TestFramesOneBehindTheOther(t *testing.T) {
	for _, m := range makers() {
		k := m.make()
		all := ""
		for _, f := range rights() {
			all += encoded(t, f)
		}
		c := cursor.New(all)
		rest := all
		for _, want := range rights() {
			if f := k.Take(c); f != want {
				t.Fatalf("%s, Take: kind %d, %d bytes, error %d", m.name, f.Kind, len(f.Payload), c.Err())
			}
			f, n, e := k.Decode(rest)
			if f != want || e != api.OK {
				t.Fatalf("%s, Decode: kind %d, %d bytes, error %d", m.name, f.Kind, len(f.Payload), e)
			}
			rest = rest[n:]
			if len(rest) != c.Left() {
				t.Fatalf("%s: %d bytes are left, not %d", m.name, len(rest), c.Left())
			}
		}
		if e := c.End(); e != api.OK || rest != "" {
			t.Errorf("%s: at the end the error %d, %d bytes left", m.name, e, len(rest))
		}
		if f := k.Take(c); f != (api.Frame{}) || c.Err() != api.ErrShort || c.At() != len(all) {
			t.Errorf("%s, behind the end: version %d, at %d, error %d", m.name, f.Version, c.At(), c.Err())
		}
	}
}

// P7.1: Take and Decode of what is none

func TestReadingOfTheEmptyText(t *testing.T) {
	refusedByAll(t, "", 0, api.ErrShort)
}

func TestReadingOfAWrongFirstByte(t *testing.T) {
	for b := range 256 {
		if b == 215 {
			continue
		}
		for _, k := range knowns() {
			refusedByAll(t, spoiled(k.s, 0, byte(b)), 1, api.ErrMagic)
		}
		for _, behind := range []string{"", "\x4e", "\x4f", "\xd7", "\x4e\x02", "\x4e\x03"} {
			refusedByAll(t, text(byte(b))+behind, 1, api.ErrMagic)
		}
	}
}

func TestReadingOfAWrongSecondByte(t *testing.T) {
	refusedByAll(t, "\xd7", 1, api.ErrShort)
	for b := range 256 {
		if b == 78 {
			continue
		}
		for _, k := range knowns() {
			refusedByAll(t, spoiled(k.s, 1, byte(b)), 2, api.ErrMagic)
		}
		for _, behind := range []string{"", "\x02", "\x03", "\x4e"} {
			refusedByAll(t, text(215, byte(b))+behind, 2, api.ErrMagic)
		}
	}
}

func TestReadingOfAWrongVersion(t *testing.T) {
	refusedByAll(t, "\xd7\x4e", 2, api.ErrShort)
	for v := range 256 {
		if v == 1 || v == 2 {
			continue
		}
		right := "\xd7\x4e" + text(byte(v)) + "\x01\x01a"
		for _, s := range []string{text(215, 78, byte(v)), text(215, 78, byte(v), 1), right, right + plainSum(right[2:])} {
			refusedByAll(t, s, 3, api.ErrVersion)
		}
		for _, k := range knowns() {
			refusedByAll(t, spoiled(k.s, 2, byte(v)), 3, api.ErrVersion)
		}
	}
}

func TestReadingWithoutAKind(t *testing.T) {
	refusedByAll(t, "\xd7\x4e\x01", 3, api.ErrShort)
	refusedByAll(t, "\xd7\x4e\x02", 3, api.ErrShort)
}

func TestReadingOfAWrongNumber(t *testing.T) {
	for _, x := range []struct {
		s  string
		at int
		e  api.Errno
	}{
		{"", 0, api.ErrShort}, {"\x80", 1, api.ErrShort}, {"\xff\xff", 2, api.ErrShort}, {strings.Repeat("\x80", 9), 9, api.ErrShort},
		{"\x80\x00", 1, api.ErrMinimal}, {"\x81\x00abcde", 1, api.ErrMinimal}, {"\x80\x80\x00", 2, api.ErrMinimal}, {strings.Repeat("\xff", 9) + "\x00", 9, api.ErrMinimal},
		{strings.Repeat("\x80", 9) + "\x02", 9, api.ErrOver}, {strings.Repeat("\xff", 10), 9, api.ErrOver}, {strings.Repeat("\xff", 40), 9, api.ErrOver},
		{"\x81\x80\x04", 3, api.ErrLimit}, {"\x81\x80\x04" + long(70000), 3, api.ErrLimit}, {"\x80\x80\x05", 3, api.ErrLimit}, {"\xff\xff\xff\xff\x0f", 5, api.ErrLimit}, {"\x80\x80\x80\x80\x10", 5, api.ErrLimit},
		{"\x81\x80\x80\x80\x10abcde", 5, api.ErrLimit}, {strings.Repeat("\xff", 8) + "\x7f", 9, api.ErrLimit}, {strings.Repeat("\x80", 9) + "\x01", 10, api.ErrLimit}, {strings.Repeat("\xff", 9) + "\x01", 10, api.ErrLimit},
		{"\x80\x80\x04", 3, api.ErrShort}, {"\xff\xff\x03", 3, api.ErrShort}, {"\x80\x80\x04" + long(65535), 3, api.ErrShort},
	} {
		for _, head := range []string{"\xd7\x4e\x01\x00", "\xd7\x4e\x02\xff"} {
			refusedByAll(t, head+x.s, 4+x.at, x.e)
		}
	}
}

// TestReadingOfTooLongPayloads is of what would be a frame, were there no limit.
func TestReadingOfTooLongPayloads(t *testing.T) {
	for _, n := range []int{65537, 65538, 131072} {
		s := plainEncode(api.Frame{Version: 2, Kind: 1, Payload: long(n)})
		refusedByAll(t, s, 7, api.ErrLimit)
	}
}

// TestReadingOfTwoWrongThings is of texts at which what stands further left is told.
func TestReadingOfTwoWrongThings(t *testing.T) {
	refusedByAll(t, "\xd6\x4f\x03\x00\x80\x00", 1, api.ErrMagic)
	refusedByAll(t, "\xd7\x4f\x03\x00\x80\x00", 2, api.ErrMagic)
	refusedByAll(t, "\xd7\x4e\x03\x00\x80\x00", 3, api.ErrVersion)
	refusedByAll(t, "\xd7\x4e\x00\x00\x81\x80\x04", 3, api.ErrVersion)
	refusedByAll(t, "\xd7\x4e\x02\x00\x80\x00\x00\x00\x00\x00", 5, api.ErrMinimal)
	refusedByAll(t, "\xd7\x4e\x02\x00\x02a", 5, api.ErrShort)
	refusedByAll(t, "\xd7\x4e\x02\x00\x01a\x00\x00\x00", 6, api.ErrShort)
}

// beginning is where a reading of a beginning of a frame's bytes stays: ahead of the first part that isn't there in whole.
func beginning(size, number, payload int) int {
	switch {
	case size < 4+number:
		return size
	case size < 4+number+payload:
		return 4 + number
	default:
		return 4 + number + payload
	}
}

func TestReadingOfEveryBeginning(t *testing.T) {
	for n, number := range map[int]int{0: 1, 1: 1, 2: 1, 127: 1, 128: 2, 300: 2} {
		for _, v := range []byte{1, 2} {
			s := encoded(t, api.Frame{Version: v, Kind: 200, Payload: long(n)})
			for size := range len(s) {
				refusedByAll(t, s[:size], beginning(size, number, n), api.ErrShort)
			}
		}
	}
}

func TestReadingOfEveryBeginningOfTheGreatest(t *testing.T) {
	s := encoded(t, api.Frame{Version: 2, Kind: 1, Payload: long(65536)})
	k := frame.New()
	for size := range len(s) {
		c := cursor.New(s[:size])
		if f := k.Take(c); f != (api.Frame{}) || c.Err() != api.ErrShort || c.At() != beginning(size, 3, 65536) {
			t.Fatalf("%d bytes: version %d, at %d, error %d", size, f.Version, c.At(), c.Err())
		}
		if f, n, e := k.Decode(s[:size]); f != (api.Frame{}) || n != 0 || e != api.ErrShort {
			t.Fatalf("%d bytes: version %d, %d, error %d", size, f.Version, n, e)
		}
	}
}

func TestReadingOfAnotherSum(t *testing.T) {
	for _, n := range []int{0, 1, 127, 128, 16384, 65536} {
		s := encoded(t, api.Frame{Version: 1, Kind: 3, Payload: long(n)})
		for at := len(s) - 4; at < len(s); at++ {
			for _, by := range []byte{1, 2, 128, 255} {
				wrong := spoiled(s, at, s[at]^by)
				refusedByAll(t, wrong, len(s), api.ErrSum)
				refusedByAll(t, wrong+"b", len(s), api.ErrSum)
			}
		}
		body := s[:len(s)-4]
		for _, sum := range []string{plainSum(s[:len(s)-4]), plainSum(s[3 : len(s)-4]), plainSum(long(n)), turned(s[len(s)-4:]), "\x00\x00\x00\x00", "\xff\xff\xff\xff"} {
			refusedByAll(t, body+sum, len(s), api.ErrSum)
		}
	}
}

// turned is a text from its end.
func turned(s string) string {
	var l []byte
	for i := range len(s) {
		l = append(l, s[len(s)-1-i])
	}
	return string(l)
}

// P7.1: Take at any cursor

func TestTakeAtACursorWithAnError(t *testing.T) {
	for _, m := range makers() {
		for _, e := range anyErrors {
			for _, s := range []string{"", "a", "\xd7", knowns()[0].s, "b" + knowns()[0].s + "c"} {
				for _, at := range []int{0, len(s) / 2, len(s)} {
					c := cursor.New(s)
					c.Bytes(at)
					c.Fail(e)
					if f := m.make().Take(c); f != (api.Frame{}) || c.At() != at || c.Err() != e {
						t.Errorf("%s, %q at %d with the error %d: version %d, at %d, error %d", m.name, s, at, e, f.Version, c.At(), c.Err())
					}
				}
			}
		}
	}
}

func TestTakeAtNil(t *testing.T) {
	for _, m := range makers() {
		if f := m.make().Take(nil); f != (api.Frame{}) {
			t.Errorf("%s: version %d", m.name, f.Version)
		}
	}
}

// TestTakeWithinAFrame is at each place of a text: a frame is read where one begins, whatever was read ahead.
func TestTakeWithinAFrame(t *testing.T) {
	inner, outer := knowns()[0], api.Frame{Version: 1, Kind: 5, Payload: "x" + knowns()[0].s + "y"}
	s := encoded(t, outer)
	for _, m := range makers() {
		for at := range len(s) + 1 {
			c := cursor.New(s)
			c.Bytes(at)
			f := m.make().Take(c)
			switch at {
			case 0:
				if f != outer || c.At() != len(s) || c.Err() != api.OK {
					t.Errorf("%s, the outer frame: at %d, error %d", m.name, c.At(), c.Err())
				}
			case 6:
				if f != inner.f || c.At() != at+len(inner.s) || c.Err() != api.OK {
					t.Errorf("%s, the inner frame: at %d, error %d", m.name, c.At(), c.Err())
				}
			default:
				if f != (api.Frame{}) || c.Err() == api.OK {
					t.Errorf("%s, at %d: version %d, error %d", m.name, at, f.Version, c.Err())
				}
			}
		}
	}
}

// P7.1: one coder over and over

func TestOneCoderOverAndOver(t *testing.T) {
	for _, m := range makers() {
		k := m.make()
		for range 3 {
			for _, f := range rights() {
				want := plainEncode(f)
				if s, e := k.Encode(f); s != want || e != api.OK {
					t.Fatalf("%s, Encode of %d bytes: error %d", m.name, len(f.Payload), e)
				}
				if _, e := k.Encode(api.Frame{Version: f.Version + 2, Payload: f.Payload}); e != api.ErrVersion {
					t.Fatalf("%s, Encode of a wrong version: error %d", m.name, e)
				}
				if got, n, e := k.Decode(want + "b"); got != f || n != len(want) || e != api.OK {
					t.Fatalf("%s, Decode of %d bytes: %d, error %d", m.name, len(f.Payload), n, e)
				}
				if _, n, e := k.Decode(spoiled(want, len(want)-1, ^want[len(want)-1])); n != 0 || e != api.ErrSum {
					t.Fatalf("%s, Decode of a wrong sum: %d, error %d", m.name, n, e)
				}
				c := cursor.New(want)
				if got := k.Take(c); got != f || c.End() != api.OK {
					t.Fatalf("%s, Take of %d bytes: error %d", m.name, len(f.Payload), c.Err())
				}
			}
		}
	}
}

// TestANewCoderMayReadFirst is since a coder's sums are made by whatever needs them first.
func TestANewCoderMayReadFirst(t *testing.T) {
	for _, m := range makers() {
		k := m.make()
		if f, n, e := k.Decode(knowns()[0].s); f != knowns()[0].f || n != 10 || e != api.OK {
			t.Errorf("%s, read first: %d, error %d", m.name, n, e)
		}
		if s, e := k.Encode(knowns()[1].f); s != knowns()[1].s || e != api.OK {
			t.Errorf("%s, written behind: %q, error %d", m.name, s, e)
		}
	}
}

// P7.2

func TestRoom(t *testing.T) {
	for _, x := range []struct{ payload, want int }{
		{math.MinInt, 0}, {math.MinInt + 1, 0}, {-1 << 32, 0}, {-65536, 0}, {-128, 0}, {-9, 0}, {-1, 0},
		{0, 9}, {1, 10}, {2, 11}, {126, 135}, {127, 136}, {128, 138}, {129, 139}, {16382, 16392}, {16383, 16393}, {16384, 16395}, {16385, 16396},
		{65535, 65546}, {65536, 65547}, {65537, 0}, {65538, 0}, {131072, 0}, {1 << 32, 0}, {1<<32 + 1, 0}, {1<<62 + 1, 0}, {math.MaxInt - 1, 0}, {math.MaxInt, 0},
	} {
		if n := frame.Room(x.payload); n != x.want {
			t.Errorf("Room(%d) = %d, not %d", x.payload, n, x.want)
		}
	}
}

func TestRoomIsTheLengthOfEachFrame(t *testing.T) {
	k := frame.New()
	whole := long(65536)
	for n := 0; n <= 65536; n++ {
		if n > 400 && n < 65000 && n%997 != 0 && (n < 16000 || n > 16500) {
			continue
		}
		s, e := k.Encode(api.Frame{Version: 2, Kind: byte(n), Payload: whole[:n]})
		if e != api.OK || frame.Room(n) != len(s) {
			t.Fatalf("Room(%d) = %d, not %d (error %d)", n, frame.Room(n), len(s), e)
		}
	}
}

func TestRoomRises(t *testing.T) {
	for n := 1; n <= 65536; n++ {
		if frame.Room(n) <= frame.Room(n-1) {
			t.Fatalf("Room(%d) = %d, and Room(%d) = %d", n, frame.Room(n), n-1, frame.Room(n-1))
		}
	}
}

func TestSends(t *testing.T) {
	if n := frame.Sends(); n != 65547 || n != frame.Room(api.MaxFrame) {
		t.Errorf("Sends is %d", n)
	}
	if n := len(encoded(t, api.Frame{Version: 2, Kind: 255, Payload: long(api.MaxFrame)})); n != frame.Sends() {
		t.Errorf("the greatest frame has %d bytes, not %d", n, frame.Sends())
	}
}

// P7.3

func TestWhatIsWrittenIsReadAgain(t *testing.T) {
	for _, m := range makers() {
		for _, f := range rights() {
			s := encoded(t, f)
			for _, behind := range []string{"", "\x00", "\xff", "\xd7", "\xd7\x4e\x01", "abcdefgh", knowns()[0].s} {
				wantRead(t, m, s+behind, f, len(s))
			}
		}
	}
}

// TestFramesOfTheTwoVersionsDiffer is since a frame of one version opens as none of another one.
func TestFramesOfTheTwoVersionsDiffer(t *testing.T) {
	for _, n := range lengths {
		a := encoded(t, api.Frame{Version: 1, Kind: 4, Payload: long(n)})
		b := encoded(t, api.Frame{Version: 2, Kind: 4, Payload: long(n)})
		if a == b || a[len(a)-4:] == b[len(b)-4:] {
			t.Errorf("%d bytes: the two versions are alike", n)
		}
		refusedByAll(t, spoiled(a, 2, 2), len(a), api.ErrSum)
		refusedByAll(t, spoiled(b, 2, 1), len(b), api.ErrSum)
	}
}

// wantSpoiled holds the reading of a spoiled frame, whatever is behind it: none of as many bytes is told.
func wantSpoiled(t *testing.T, k *frame.Coder, s string, at int, b byte) {
	t.Helper()
	wrong := spoiled(s, at, b)
	for _, behind := range []string{"", "b", s} {
		f, n, e := k.Decode(wrong + behind)
		if n == len(s) || (e == api.OK) != (n > 0) || e != api.OK && f != (api.Frame{}) {
			t.Errorf("%.40q, the byte %d at %d: kind %d, %d bytes, %d, error %d", s, b, at, f.Kind, len(f.Payload), n, e)
		}
	}
}

func TestEachByteTurnedIntoEachOther(t *testing.T) {
	k := frame.New()
	l := []string{encoded(t, api.Frame{Version: 1, Kind: 1, Payload: long(127)}), encoded(t, api.Frame{Version: 2, Kind: 0, Payload: long(128)})}
	for _, x := range knowns() {
		l = append(l, x.s)
	}
	for _, s := range l {
		for at := range len(s) {
			for b := range 256 {
				if s[at] != byte(b) {
					wantSpoiled(t, k, s, at, byte(b))
				}
			}
		}
	}
}

func TestEachByteOfLongFramesTurnedIntoAnother(t *testing.T) {
	k := frame.New()
	for _, n := range []int{16383, 16384, 65536} {
		s := encoded(t, api.Frame{Version: 2, Kind: 9, Payload: long(n)})
		for at := range len(s) {
			if at > 20 && at < len(s)-20 && at%1999 != 0 {
				continue
			}
			for _, by := range []byte{1, 16, 128, 255} {
				wantSpoiled(t, k, s, at, s[at]^by)
			}
		}
	}
}

// TestASpoiledLengthMayLeaveAShorterFrame is of a payload with the sum of a shorter one in it: with the shorter one's number it is that frame, of fewer bytes, as its bytes say.
func TestASpoiledLengthMayLeaveAShorterFrame(t *testing.T) {
	short := api.Frame{Version: 2, Kind: 6, Payload: "abc"}
	s := encoded(t, short)
	outer := api.Frame{Version: 2, Kind: 6, Payload: s[5:] + "more"}
	whole := encoded(t, outer)
	for _, m := range makers() {
		wantRead(t, m, whole, outer, len(whole))
		wantRead(t, m, spoiled(whole, 4, 3), short, len(s))
	}
}

// TestASpoiledLengthMayLeaveALongerFrame is the other way about: with other bytes behind it.
func TestASpoiledLengthMayLeaveALongerFrame(t *testing.T) {
	short := encoded(t, api.Frame{Version: 1, Kind: 6, Payload: "abc"})
	outer := api.Frame{Version: 1, Kind: 6, Payload: short[5:] + "more"}
	whole := encoded(t, outer)
	for _, m := range makers() {
		wantRead(t, m, spoiled(short, 4, byte(len(outer.Payload)))+whole[len(short):], outer, len(whole))
		wantRefused(t, m, spoiled(short, 4, byte(len(outer.Payload))), 5, api.ErrShort)
	}
}
