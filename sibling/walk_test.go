package sibling_test

import (
	"slices"
	"strings"
	"testing"

	"spence/api"
	"spence/pen"
	"spence/sibling"
)

// rows are all rows of up to k elements.
func rows[T any](of []T, k int) [][]T {
	all := [][]T{nil}
	for from := 0; k > 0; k-- {
		to := len(all)
		for _, row := range all[from:to] {
			for _, x := range of {
				all = append(all, append(append([]T{}, row...), x))
			}
		}
		from = to
	}
	return all
}

// reader reads a text as the chapters' words say it; behind its first error it reads nothing.
type reader struct {
	s  string
	at int
	e  api.Errno
}

// fail keeps an error, if it is the first one and it holds.
func (r *reader) fail(holds bool, e api.Errno) {
	if r.e == api.OK && holds {
		r.e = e
	}
}

// number reads a number byte by byte. The tenth byte is 1 at most, so the sum isn't beyond 64 bits.
func (r *reader) number() uint64 {
	sum, place := uint64(0), uint64(1)
	for i := 0; r.e == api.OK; i++ {
		if r.at == len(r.s) {
			r.e = api.ErrShort
			break
		}
		b := r.s[r.at]
		r.fail(i == 9 && b > 1, api.ErrOver)
		r.fail(i != 0 && b == 0, api.ErrMinimal)
		if r.e != api.OK {
			break
		}
		r.at++
		sum += uint64(b&127) * place
		place *= 128
		if b < 128 {
			return sum
		}
	}
	return 0
}

// limited reads a number that has a limit.
func (r *reader) limited(limit uint64) int {
	n := r.number()
	r.fail(n > limit, api.ErrLimit)
	if r.e != api.OK {
		return 0
	}
	return int(n)
}

// blob reads a text with its length ahead.
func (r *reader) blob(limit uint64) string {
	n := r.limited(limit)
	r.fail(len(r.s)-r.at < n, api.ErrShort)
	if r.e != api.OK {
		return ""
	}
	r.at += n
	return r.s[r.at-n : r.at]
}

// name reads a blob of up to 32 bytes, and where it is empty tells so.
func (r *reader) name() string {
	s := r.blob(32)
	r.fail(s == "", api.ErrEmpty)
	return s
}

// event reads an actor and a number behind another actor (the empty one: all are above it).
func (r *reader) event(ahead string) api.Entry {
	x := api.Entry{Actor: r.name()}
	r.fail(strings.Compare(x.Actor, ahead) <= 0, api.ErrOrder)
	x.Count = r.number()
	r.fail(x.Count == 0, api.ErrZero)
	return x
}

// flag reads a flag.
func (r *reader) flag() bool {
	r.fail(r.at == len(r.s), api.ErrShort)
	if r.e != api.OK {
		return false
	}
	r.at++
	r.fail(r.s[r.at-1] != 0 && r.s[r.at-1] != 1, api.ErrFlag)
	return r.s[r.at-1] == 1
}

// clock reads a clock.
func (r *reader) clock() api.Clock {
	var k api.Clock
	ahead := ""
	for n := r.limited(64); n > 0 && r.e == api.OK; n-- {
		x := r.event(ahead)
		k.Ctx = append(k.Ctx, x)
		ahead = x.Actor
	}
	k.Dotted = r.flag()
	if k.Dotted {
		k.Dot = r.event("")
		r.fail(k.Dot.Count <= upTo(k.Ctx, k.Dot.Actor), api.ErrDot)
	}
	return k
}

// meta reads pairs.
func (r *reader) meta() []api.Pair {
	var l []api.Pair
	ahead := ""
	for n := r.limited(8); n > 0 && r.e == api.OK; n-- {
		x := api.Pair{Name: r.name()}
		r.fail(strings.Compare(x.Name, ahead) <= 0, api.ErrOrder)
		x.Value = r.blob(32768)
		l = append(l, x)
		ahead = x.Name
	}
	return l
}

// sibling reads a sibling: a zero one, where there is an error.
func (r *reader) sibling() api.Sibling {
	x := api.Sibling{Clock: r.clock()}
	x.Meta = r.meta()
	x.Dead = r.flag()
	x.Value = r.blob(32768)
	if r.e != api.OK {
		return api.Sibling{}
	}
	return x
}

// upTo is the count of an actor in a list whose actors rise.
func upTo(v []api.Entry, actor string) uint64 {
	for _, x := range slices.Backward(v) {
		if x.Actor == actor {
			return x.Count
		}
	}
	return 0
}

// plainNumber are a number's bytes.
func plainNumber(n uint64) string {
	if n < 128 {
		return string([]byte{byte(n)})
	}
	return string([]byte{byte(128 + n%128)}) + plainNumber(n/128)
}

// rule is a named error, and whether it holds.
type rule struct {
	holds bool
	e     api.Errno
}

// first is the error of the first rule that holds.
func first(l ...rule) api.Errno {
	for _, r := range l {
		if r.holds {
			return r.e
		}
	}
	return api.OK
}

// checkedClock is what chapters 10 and 12 say of a clock.
func checkedClock(k api.Clock) api.Errno {
	if len(k.Ctx) > 64 {
		return api.ErrLimit
	}
	ahead := ""
	for _, x := range k.Ctx {
		if e := first(rule{len(x.Actor) > 32, api.ErrLimit}, rule{x.Actor == "", api.ErrEmpty}, rule{strings.Compare(x.Actor, ahead) <= 0, api.ErrOrder}, rule{x.Count == 0, api.ErrZero}); e != api.OK {
			return e
		}
		ahead = x.Actor
	}
	if !k.Dotted {
		return first(rule{k.Dot.Actor != "" || k.Dot.Count != 0, api.ErrArg})
	}
	return first(rule{len(k.Dot.Actor) > 32, api.ErrLimit}, rule{k.Dot.Actor == "", api.ErrEmpty}, rule{k.Dot.Count == 0, api.ErrZero}, rule{k.Dot.Count <= upTo(k.Ctx, k.Dot.Actor), api.ErrDot})
}

// checkedMeta is what chapter 14 says of metadata.
func checkedMeta(l []api.Pair) api.Errno {
	if len(l) > 8 {
		return api.ErrLimit
	}
	ahead := ""
	for _, x := range l {
		if e := first(rule{len(x.Name) > 32, api.ErrLimit}, rule{x.Name == "", api.ErrEmpty}, rule{strings.Compare(x.Name, ahead) <= 0, api.ErrOrder}, rule{len(x.Value) > 32768, api.ErrLimit}); e != api.OK {
			return e
		}
		ahead = x.Name
	}
	return api.OK
}

// checked is what the chapters say of a sibling.
func checked(x api.Sibling) api.Errno {
	clock, meta := checkedClock(x.Clock), checkedMeta(x.Meta)
	return first(rule{clock != api.OK, clock}, rule{meta != api.OK, meta}, rule{len(x.Value) > 32768, api.ErrLimit})
}

// part is one of the texts that are written of a sibling: a number, or bytes of which all are read or none.
type part struct {
	s      string
	number bool
}

// blobParts are a text's length, and the text.
func blobParts(s string) []part {
	return []part{{plainNumber(uint64(len(s))), true}, {s, false}}
}

// flagPart is a flag.
func flagPart(set bool) part {
	if set {
		return part{"\x01", false}
	}
	return part{"\x00", false}
}

// parts are the texts that are written of a sibling, one by one.
func parts(x api.Sibling) []part {
	l := []part{{plainNumber(uint64(len(x.Clock.Ctx))), true}}
	event := func(x api.Entry) {
		l = append(append(l, blobParts(x.Actor)...), part{plainNumber(x.Count), true})
	}
	for _, e := range x.Clock.Ctx {
		event(e)
	}
	l = append(l, flagPart(x.Clock.Dotted))
	if x.Clock.Dotted {
		event(x.Clock.Dot)
	}
	l = append(l, part{plainNumber(uint64(len(x.Meta))), true})
	for _, m := range x.Meta {
		l = append(append(l, blobParts(m.Name)...), blobParts(m.Value)...)
	}
	return append(append(l, flagPart(x.Dead)), blobParts(x.Value)...)
}

// plainText are a sibling's parts as one text, also where it isn't right.
func plainText(x api.Sibling) string {
	var s strings.Builder
	for _, p := range parts(x) {
		s.WriteString(p.s)
	}
	return s.String()
}

// plainPut writes siblings behind a text, up to a pen's room: what is written, and the error.
func plainPut(s string, room int, l []api.Sibling) (string, api.Errno) {
	for _, x := range l {
		if e := checked(x); e != api.OK {
			return s, e
		}
		for _, p := range parts(x) {
			if len(s)+len(p.s) > room {
				return s, api.ErrLimit
			}
			s += p.s
		}
	}
	return s, api.OK
}

// wantPlain holds Take and Decode of a text against the plain reading, and what is read against what is written of it.
func wantPlain(t *testing.T, s string) {
	t.Helper()
	r := reader{s: s}
	want := r.sibling()
	wantTaken(t, s, 0, want, r.at, r.e)
	switch {
	case r.e != api.OK:
		wantDecoded(t, s, api.Sibling{}, r.e)
		return
	case r.at < len(s):
		wantDecoded(t, s, api.Sibling{}, api.ErrTrail)
	default:
		wantDecoded(t, s, want, api.OK)
	}
	wantChecked(t, want, api.OK)
	p := pen.New(r.at)
	sibling.Put(p, want)
	wantPen(t, p, s[:r.at], r.at, api.OK)
	if r.at > 65536 {
		wantEncoded(t, want, "", api.ErrLimit)
		return
	}
	wantEncoded(t, want, s[:r.at], api.OK)
}

// wantPut holds Put of siblings against the plain writing.
func wantPut(t *testing.T, room int, l ...api.Sibling) {
	t.Helper()
	want, e := plainPut("z", room, l)
	p := pen.New(room)
	p.Text("z")
	sibling.Put(p, l...)
	text := want
	if e != api.OK {
		text = ""
	}
	wantPen(t, p, text, len(want), e)
}

// wantWritten holds Check, Encode and Decode of a sibling against the plain ones.
func wantWritten(t *testing.T, x api.Sibling) {
	t.Helper()
	e, s := checked(x), plainText(x)
	wantChecked(t, x, e)
	switch {
	case e != api.OK:
		wantEncoded(t, x, "", e)
		if y, e := sibling.Decode(s); e == api.OK && alike(x, y) {
			t.Fatalf("%s, which isn't right, is read of %.60q", brief(x), s)
		}
	case len(s) > 65536:
		wantEncoded(t, x, "", api.ErrLimit)
		wantDecoded(t, s, x, api.OK)
	default:
		wantEncoded(t, x, s, api.OK)
		wantDecoded(t, s, x, api.OK)
	}
}

// TestAllShortTexts is of all texts of up to two bytes, alone and behind some beginnings, and of all of up to seven edge bytes.
func TestAllShortTexts(t *testing.T) {
	var all []byte
	for i := range 256 {
		all = append(all, byte(i))
	}
	aheads := []string{"", "\x00", "\x00\x00", "\x00\x00\x00", "\x00\x00\x00\x00", "\x00\x00\x00\x01", "\x00\x00\x00\x00\x01", "\x01\x01a\x02\x01\x01a", "\x00\x00\x01", "\x00\x00\x01\x01", "\x00\x00\x01\x01t", "\x00\x00\x01\x01t\x01", "\x00\x00\x01\x01t\x00", "\x00\x01\x01a\x05\x00\x01", "\x00\x00\x00\x00" + great[:1], "\x00\x00\x00\x00" + great[:2], "\x00\x00\x00\x00" + nines[1:], "\x00\x00" + nines[1:]}
	for _, b := range rows(all, 2) {
		for _, ahead := range aheads {
			wantPlain(t, ahead+string(b))
		}
	}
	for _, b := range rows([]byte{0, 1, 2, 3, 128, 255}, 7) {
		wantPlain(t, string(b))
	}
}

// TestAllRowsOfPieces is of all rows of up to five pieces of siblings behind each of some clocks.
func TestAllRowsOfPieces(t *testing.T) {
	pieces := []string{"\x00", "\x01", "\x02", "\x01t", "\x01s", "\x02tu", "\x81\x00", tooGreat, nines + "\x02", "\x20" + long(32), "\x21"}
	for _, row := range rows(pieces, 5) {
		s := strings.Join(row, "")
		for _, k := range []string{"", "\x00\x00", "\x01\x01a\x01\x01\x01a\x02"} {
			wantPlain(t, k+s)
		}
	}
}

// smallOnes are all siblings of some clocks, metadata and values, right or not.
func smallOnes() []api.Sibling {
	var l []api.Sibling
	ks := []api.Clock{clk(""), clk("a1"), clk("+a1"), clk("a1 +a2"), clk("a2 +b1"), clk("a1 b1"), clk("b1 a1"), clk("a0"), clk("a1 +a1"), clk("+a0"), stray(nil, "a", 1), stray(nil, "a", 0), dot(nil, "", 1)}
	ms := [][]api.Pair{nil, prs("t"), prs("t1"), prs("u1"), prs("t u"), prs("t1 u2"), prs("u t"), prs("t t"), make([]api.Pair, 1), many(8, ""), many(9, "")}
	for _, k := range ks {
		for _, m := range ms {
			for _, v := range []string{"", "v", "\x00", "t\x00", tooGreatValue} {
				for _, dead := range []bool{false, true} {
					l = append(l, api.Sibling{Clock: k, Meta: m, Dead: dead, Value: v})
				}
			}
		}
	}
	return l
}

// TestAllSmallOnes is of all small siblings, right or not; two that aren't the same have not the same bytes.
func TestAllSmallOnes(t *testing.T) {
	seen := map[string]bool{}
	for _, x := range smallOnes() {
		wantWritten(t, x)
		s, e := sibling.Encode(x)
		if e != api.OK {
			continue
		}
		if seen[s] {
			t.Fatalf("%.60q are the bytes of two siblings", s)
		}
		seen[s] = true
	}
}

// TestAllSmallOnesAreTheSameOrNot holds each of them against each other one.
func TestAllSmallOnesAreTheSameOrNot(t *testing.T) {
	l := smallOnes()
	for i, a := range l {
		for j, b := range l {
			if sibling.Same(a, b) != (i == j) {
				t.Fatalf("%s and %s: %t", brief(a), brief(b), i != j)
			}
		}
	}
}

// TestAllRowsOfSiblings puts all rows of up to three siblings, right or not, at pens of all rooms.
func TestAllRowsOfSiblings(t *testing.T) {
	l := []api.Sibling{{}, sib("a1 +a300", "t1", true, "vvv"), sib("", "t u22", false, "v"), sib("b1", "", false, ""), sib("a0", "", false, ""), sib("a1 +a1", "t t", false, ""), sib("", "t t", true, "v"), {Meta: prs("t1"), Value: tooGreatValue}, {Clock: clk("a1"), Meta: make([]api.Pair, 1)}, sib("", "", true, long(20))}
	for _, row := range rows(l, 3) {
		for room := range 80 {
			wantPut(t, room+1, row...)
		}
	}
}

// drawn are texts and siblings that follow a rule.
type drawn struct{ x uint32 }

func (d *drawn) next() int {
	d.x = d.x*1664525 + 1013904223
	return int(d.x >> 20)
}

func (d *drawn) text(n int) string {
	b := make([]byte, n)
	for i := range b {
		b[i] = byte(d.next())
	}
	return string(b)
}

// entry is any entry, most often a right one.
func (d *drawn) entry() api.Entry {
	if d.next()%100 == 0 {
		return api.Entry{Actor: d.text(d.next() % 34), Count: uint64(d.next() % 2)}
	}
	return api.Entry{Actor: d.text(1 + d.next()%32), Count: []uint64{1, 127, 128, most, 1 << 63, uint64(1 + d.next()), 1 + uint64(d.next())<<30}[d.next()%7]}
}

// clock is any clock, most often a right one.
func (d *drawn) clock() api.Clock {
	var k api.Clock
	for range d.next() % (1 + d.next()%12) {
		k.Ctx = append(k.Ctx, d.entry())
	}
	if d.next()%8 > 0 {
		slices.SortFunc(k.Ctx, func(a, b api.Entry) int { return strings.Compare(a.Actor, b.Actor) })
	}
	if d.next()%2 > 0 {
		k.Dotted, k.Dot = true, d.entry()
	}
	if k.Dotted && len(k.Ctx) > 0 && d.next()%3 == 0 { // around what the vector knows
		k.Dot = k.Ctx[d.next()%len(k.Ctx)]
		k.Dot.Count += uint64(d.next()%4 - 1)
	}
	if d.next()%40 == 0 {
		k.Dotted = !k.Dotted
	}
	return k
}

// meta is any metadata, most often right.
func (d *drawn) meta() []api.Pair {
	var l []api.Pair
	for range d.next() % (1 + d.next()%10) {
		l = append(l, api.Pair{Name: d.text(1 + d.next()%32), Value: d.text([]int{0, 1, 5, 127, 128, 200}[d.next()%6])})
	}
	if d.next()%8 > 0 {
		slices.SortFunc(l, func(a, b api.Pair) int { return strings.Compare(a.Name, b.Name) })
	}
	if len(l) > 0 && d.next()%10 == 0 {
		l[d.next()%len(l)] = api.Pair{Name: d.text(d.next() % 35), Value: d.text(d.next() % 3)}
	}
	return l
}

// sibling is any sibling, most often a right one.
func (d *drawn) sibling() api.Sibling {
	v := d.text([]int{0, 1, 2, 40, 127, 128, 300}[d.next()%7])
	if d.next()%40 == 0 {
		v = long(32760 + d.next()%12)
	}
	return api.Sibling{Clock: d.clock(), Meta: d.meta(), Dead: d.next()%2 == 0, Value: v}
}

// TestAnyTextsAndSiblings is of any texts, of any siblings, and of siblings' bytes, spoiled at some places.
func TestAnyTextsAndSiblings(t *testing.T) {
	d := &drawn{1}
	right := 0
	for range 10000 {
		a, b := d.sibling(), d.sibling()
		if checked(a) == api.OK {
			right++
		}
		wantWritten(t, a)
		wantPut(t, 1+d.next()%2048, a, b, api.Sibling{}, a)
		wantSame(t, a, b, alike(a, b))
		wantSame(t, a, cloned(a), true)
		wantSame(t, a, sibling.Copy(a), true)
		wantPlain(t, d.text(d.next()%40))
		wantPlain(t, "\x00\x00"+string([]byte{byte(d.next() % 3)})+d.text(d.next()%200))
		s := plainText(a) // also of what isn't right
		wantPlain(t, s)
		wantPlain(t, s+d.text(d.next()%3))
		wantPlain(t, s[:d.next()%(len(s)+1)])
		at := d.next() % len(s)
		wantPlain(t, s[:at]+d.text(1)+s[at+1:])
		wantPlain(t, s[:at]+d.text(1)+s[at:])
		wantPlain(t, s[:at]+s[at+1:])
	}
	if right < 5000 {
		t.Fatalf("only %d are right", right)
	}
}
