package object_test

import (
	"slices"
	"strings"
	"testing"

	"spence/api"
	"spence/object"
	"spence/pen"
)

// rows are all rows of up to k elements.
func rows[T any](of []T, k int) [][]T {
	all := [][]T{nil}
	for from := 0; k > 0; k-- {
		to := len(all)
		for _, row := range all[from:to] {
			for _, x := range of {
				all = append(all, append(append([]T{}, row...), x))
			}
		}
		from = to
	}
	return all
}

// reader reads a text as the chapters' words say it; behind its first error it reads nothing.
type reader struct {
	s  string
	at int
	e  api.Errno
}

// fail keeps an error, if it is the first one and it holds.
func (r *reader) fail(holds bool, e api.Errno) {
	if r.e == api.OK && holds {
		r.e = e
	}
}

// number reads a number byte by byte. The tenth byte is 1 at most, so the sum isn't beyond 64 bits.
func (r *reader) number() uint64 {
	sum, place := uint64(0), uint64(1)
	for i := 0; r.e == api.OK; i++ {
		if r.at == len(r.s) {
			r.e = api.ErrShort
			break
		}
		b := r.s[r.at]
		r.fail(i == 9 && b > 1, api.ErrOver)
		r.fail(i != 0 && b == 0, api.ErrMinimal)
		if r.e != api.OK {
			break
		}
		r.at++
		sum += uint64(b&127) * place
		place *= 128
		if b < 128 {
			return sum
		}
	}
	return 0
}

// limited reads a number that has a limit.
func (r *reader) limited(limit uint64) int {
	n := r.number()
	r.fail(n > limit, api.ErrLimit)
	if r.e != api.OK {
		return 0
	}
	return int(n)
}

// blob reads a text with its length ahead.
func (r *reader) blob(limit uint64) string {
	n := r.limited(limit)
	r.fail(len(r.s)-r.at < n, api.ErrShort)
	if r.e != api.OK {
		return ""
	}
	r.at += n
	return r.s[r.at-n : r.at]
}

// name reads a blob of up to 32 bytes, and where it is empty tells so.
func (r *reader) name() string {
	s := r.blob(32)
	r.fail(s == "", api.ErrEmpty)
	return s
}

// event reads an actor and a number behind another actor (the empty one: all are above it).
func (r *reader) event(ahead string) api.Entry {
	x := api.Entry{Actor: r.name()}
	r.fail(strings.Compare(x.Actor, ahead) <= 0, api.ErrOrder)
	x.Count = r.number()
	r.fail(x.Count == 0, api.ErrZero)
	return x
}

// flag reads a flag.
func (r *reader) flag() bool {
	r.fail(r.at == len(r.s), api.ErrShort)
	if r.e != api.OK {
		return false
	}
	r.at++
	r.fail(r.s[r.at-1] != 0 && r.s[r.at-1] != 1, api.ErrFlag)
	return r.s[r.at-1] == 1
}

// clock reads a clock.
func (r *reader) clock() api.Clock {
	var k api.Clock
	ahead := ""
	for n := r.limited(64); n > 0 && r.e == api.OK; n-- {
		x := r.event(ahead)
		k.Ctx = append(k.Ctx, x)
		ahead = x.Actor
	}
	k.Dotted = r.flag()
	if k.Dotted {
		k.Dot = r.event("")
		r.fail(k.Dot.Count <= upTo(k.Ctx, k.Dot.Actor), api.ErrDot)
	}
	return k
}

// meta reads pairs.
func (r *reader) meta() []api.Pair {
	var l []api.Pair
	ahead := ""
	for n := r.limited(8); n > 0 && r.e == api.OK; n-- {
		x := api.Pair{Name: r.name()}
		r.fail(strings.Compare(x.Name, ahead) <= 0, api.ErrOrder)
		x.Value = r.blob(32768)
		l = append(l, x)
		ahead = x.Name
	}
	return l
}

// sibling reads a sibling.
func (r *reader) sibling() api.Sibling {
	x := api.Sibling{Clock: r.clock()}
	x.Meta = r.meta()
	x.Dead = r.flag()
	x.Value = r.blob(32768)
	return x
}

// object reads an object: a zero one, where there is an error. A clock's bytes are those that are written of it.
func (r *reader) object() api.Object {
	o := api.Object{Key: r.blob(128)}
	r.fail(o.Key == "", api.ErrEmpty)
	n := r.limited(16)
	r.fail(n == 0, api.ErrZero)
	ahead := ""
	for ; n > 0 && r.e == api.OK; n-- {
		x := r.sibling()
		s := joinedParts(clockParts(x.Clock))
		r.fail(strings.Compare(s, ahead) <= 0, api.ErrOrder)
		o.Sibs = append(o.Sibs, x)
		ahead = s
	}
	if r.e != api.OK {
		return api.Object{}
	}
	return o
}

// upTo is the count of an actor in a list whose actors rise.
func upTo(v []api.Entry, actor string) uint64 {
	for _, x := range slices.Backward(v) {
		if x.Actor == actor {
			return x.Count
		}
	}
	return 0
}

// plainNumber are a number's bytes.
func plainNumber(n uint64) string {
	if n < 128 {
		return string([]byte{byte(n)})
	}
	return string([]byte{byte(128 + n%128)}) + plainNumber(n/128)
}

// rule is a named error, and whether it holds.
type rule struct {
	holds bool
	e     api.Errno
}

// first is the error of the first rule that holds.
func first(l ...rule) api.Errno {
	for _, r := range l {
		if r.holds {
			return r.e
		}
	}
	return api.OK
}

// checkedClock is what chapters 10 and 12 say of a clock.
func checkedClock(k api.Clock) api.Errno {
	if len(k.Ctx) > 64 {
		return api.ErrLimit
	}
	ahead := ""
	for _, x := range k.Ctx {
		if e := first(rule{len(x.Actor) > 32, api.ErrLimit}, rule{x.Actor == "", api.ErrEmpty}, rule{strings.Compare(x.Actor, ahead) <= 0, api.ErrOrder}, rule{x.Count == 0, api.ErrZero}); e != api.OK {
			return e
		}
		ahead = x.Actor
	}
	if !k.Dotted {
		return first(rule{k.Dot.Actor != "" || k.Dot.Count != 0, api.ErrArg})
	}
	return first(rule{len(k.Dot.Actor) > 32, api.ErrLimit}, rule{k.Dot.Actor == "", api.ErrEmpty}, rule{k.Dot.Count == 0, api.ErrZero}, rule{k.Dot.Count <= upTo(k.Ctx, k.Dot.Actor), api.ErrDot})
}

// checkedMeta is what chapter 14 says of metadata.
func checkedMeta(l []api.Pair) api.Errno {
	if len(l) > 8 {
		return api.ErrLimit
	}
	ahead := ""
	for _, x := range l {
		if e := first(rule{len(x.Name) > 32, api.ErrLimit}, rule{x.Name == "", api.ErrEmpty}, rule{strings.Compare(x.Name, ahead) <= 0, api.ErrOrder}, rule{len(x.Value) > 32768, api.ErrLimit}); e != api.OK {
			return e
		}
		ahead = x.Name
	}
	return api.OK
}

// checkedSib is what the chapters say of a sibling.
func checkedSib(x api.Sibling) api.Errno {
	clock, meta := checkedClock(x.Clock), checkedMeta(x.Meta)
	return first(rule{clock != api.OK, clock}, rule{meta != api.OK, meta}, rule{len(x.Value) > 32768, api.ErrLimit})
}

// checkedHead is what chapter 16 says of a key, and of how many siblings there are.
func checkedHead(key string, sibs int) api.Errno {
	return first(rule{len(key) > 128, api.ErrLimit}, rule{key == "", api.ErrEmpty}, rule{sibs > 16, api.ErrLimit}, rule{sibs == 0, api.ErrZero})
}

// checked is what the chapters say of an object.
func checked(o api.Object) api.Errno {
	if e := checkedHead(o.Key, len(o.Sibs)); e != api.OK {
		return e
	}
	ahead := ""
	for _, x := range o.Sibs {
		e, s := checkedSib(x), joinedParts(clockParts(x.Clock))
		if e = first(rule{e != api.OK, e}, rule{strings.Compare(s, ahead) <= 0, api.ErrOrder}); e != api.OK {
			return e
		}
		ahead = s
	}
	return api.OK
}

// plainSorted are siblings in the order of their clocks' bytes, one by one put in its place.
func plainSorted(l []api.Sibling) []api.Sibling {
	var sorted []api.Sibling
	for _, x := range l {
		at := 0
		for at < len(sorted) && strings.Compare(joinedParts(clockParts(sorted[at].Clock)), joinedParts(clockParts(x.Clock))) < 0 {
			at++
		}
		sorted = slices.Insert(sorted, at, x)
	}
	return sorted
}

// plainSort is what chapter 16 says of Sort.
func plainSort(key string, l []api.Sibling) (api.Object, api.Errno) {
	if e := checkedHead(key, len(l)); e != api.OK {
		return api.Object{}, e
	}
	seen, twice := map[string]bool{}, false
	for _, x := range l {
		if e := checkedSib(x); e != api.OK {
			return api.Object{}, e
		}
		s := joinedParts(clockParts(x.Clock))
		twice = twice || seen[s]
		seen[s] = true
	}
	if twice {
		return api.Object{}, api.ErrOrder
	}
	return obj(key, plainSorted(l)...), api.OK
}

// part is one of the texts that are written of a sibling: a number, or bytes of which all are read or none.
type part struct {
	s      string
	number bool
}

// blobParts are a text's length, and the text.
func blobParts(s string) []part {
	return []part{{plainNumber(uint64(len(s))), true}, {s, false}}
}

// flagPart is a flag.
func flagPart(set bool) part {
	if set {
		return part{"\x01", false}
	}
	return part{"\x00", false}
}

// clockParts are the texts that are written of a clock, one by one.
func clockParts(k api.Clock) []part {
	l := []part{{plainNumber(uint64(len(k.Ctx))), true}}
	event := func(x api.Entry) {
		l = append(append(l, blobParts(x.Actor)...), part{plainNumber(x.Count), true})
	}
	for _, e := range k.Ctx {
		event(e)
	}
	l = append(l, flagPart(k.Dotted))
	if k.Dotted {
		event(k.Dot)
	}
	return l
}

// parts are the texts that are written of an object, one by one.
func parts(o api.Object) []part {
	l := append(blobParts(o.Key), part{plainNumber(uint64(len(o.Sibs))), true})
	for _, x := range o.Sibs {
		l = append(append(l, clockParts(x.Clock)...), part{plainNumber(uint64(len(x.Meta))), true})
		for _, m := range x.Meta {
			l = append(append(l, blobParts(m.Name)...), blobParts(m.Value)...)
		}
		l = append(append(l, flagPart(x.Dead)), blobParts(x.Value)...)
	}
	return l
}

// joinedParts are parts as one text.
func joinedParts(l []part) string {
	var s strings.Builder
	for _, p := range l {
		s.WriteString(p.s)
	}
	return s.String()
}

// plainText are an object's parts as one text, also where it isn't right.
func plainText(o api.Object) string {
	return joinedParts(parts(o))
}

// plainPut writes an object behind a text, up to a pen's room: what is written, and the error.
func plainPut(s string, room int, o api.Object) (string, api.Errno) {
	if e := checked(o); e != api.OK {
		return s, e
	}
	for _, p := range parts(o) {
		if len(s)+len(p.s) > room {
			return s, api.ErrLimit
		}
		s += p.s
	}
	return s, api.OK
}

// wantPlain holds Take and Decode of a text against the plain reading, and what is read against what is written of it.
func wantPlain(t *testing.T, s string) {
	t.Helper()
	r := reader{s: s}
	want := r.object()
	wantTaken(t, s, 0, want, r.at, r.e)
	switch {
	case r.e != api.OK:
		wantDecoded(t, s, api.Object{}, r.e)
		return
	case r.at < len(s):
		wantDecoded(t, s, api.Object{}, api.ErrTrail)
	default:
		wantDecoded(t, s, want, api.OK)
	}
	wantChecked(t, want, api.OK)
	p := pen.New(r.at)
	object.Put(p, want)
	wantPen(t, p, s[:r.at], r.at, api.OK)
	if r.at > 65536 {
		wantEncoded(t, want, "", api.ErrLimit)
		return
	}
	wantEncoded(t, want, s[:r.at], api.OK)
}

// wantPut holds Put of an object against the plain writing.
func wantPut(t *testing.T, room int, o api.Object) {
	t.Helper()
	want, e := plainPut("z", room, o)
	p := pen.New(room)
	p.Text("z")
	object.Put(p, o)
	text := want
	if e != api.OK {
		text = ""
	}
	wantPen(t, p, text, len(want), e)
}

// wantWritten holds Check, Encode, Decode and Sort of an object against the plain ones.
func wantWritten(t *testing.T, o api.Object) {
	t.Helper()
	e, s := checked(o), plainText(o)
	wantChecked(t, o, e)
	sorted, f := plainSort(o.Key, o.Sibs)
	wantSorted(t, o.Key, o.Sibs, sorted, f)
	switch {
	case e != api.OK:
		wantEncoded(t, o, "", e)
		if q, e := object.Decode(s); e == api.OK && alike(o, q) {
			t.Fatalf("%s, which isn't right, is read of %.60q", brief(o), s)
		}
	case len(s) > 65536:
		wantEncoded(t, o, "", api.ErrLimit)
		wantDecoded(t, s, o, api.OK)
	default:
		wantEncoded(t, o, s, api.OK)
		wantDecoded(t, s, o, api.OK)
	}
}

// TestAllShortTexts is of all texts of up to two bytes, alone and behind some beginnings, and of all of up to seven edge bytes.
func TestAllShortTexts(t *testing.T) {
	var all []byte
	for i := range 256 {
		all = append(all, byte(i))
	}
	one := "\x01k\x02\x00\x00\x00\x00\x00"
	aheads := []string{"", "\x01", "\x01k", "\x01k\x01", "\x01k\x01\x00", "\x01k\x01\x00\x00", "\x01k\x01\x00\x00\x00", "\x01k\x01\x00\x00\x00\x00", one, one + "\x00", one + "\x01\x01a\x01", one + "\x00\x01\x01a", one + "\x00\x01\x01a\x01", one + "\x00\x00\x00\x00", one + "\x00\x01\x01a\x01\x00\x00", "\x80", "\x80\x01" + long(127), "\x01k" + nines[1:], nines[1:]}
	for _, b := range rows(all, 2) {
		for _, ahead := range aheads {
			wantPlain(t, ahead+string(b))
		}
	}
	for _, b := range rows([]byte{0, 1, 2, 16, 128, 255}, 7) {
		wantPlain(t, string(b))
	}
	for _, b := range rows([]byte{0, 1, 2, 3}, 7) {
		wantPlain(t, "\x01k"+string(b))
	}
}

// TestAllRowsOfPieces is of all rows of up to five pieces of objects, alone and behind a key.
func TestAllRowsOfPieces(t *testing.T) {
	pieces := []string{"\x00", "\x01", "\x02", "\x03", "\x11", "\x01k", "\x81\x01", "\x81\x00", nines + "\x02", "\x00\x00\x00\x00\x00", "\x00\x01\x01a\x01\x00\x01\x00", "\x01\x01a\x01\x00\x01\x01t\x011\x00\x01v", "\x01\x01b\x00"}
	for _, row := range rows(pieces, 5) {
		s := strings.Join(row, "")
		wantPlain(t, s)
		wantPlain(t, "\x01k"+s)
	}
}

// someSibs are siblings, right or not.
func someSibs() []api.Sibling {
	return []api.Sibling{{}, sib("", "", true, "v"), sib("+a1", "t1", false, "v"), sib("a1", "", false, "v"), sib("a1 +a300", "", true, ""), sib("a1 +b1", "t u2", false, ""), sib("b1", "", false, "w"), sib("a1 b1", "", false, ""), sib("a0", "", false, ""), sib("a1 +a1", "t t", false, ""), sib("", "t t", true, "v"), {Clock: clk("a1"), Value: tooGreatValue}, {Clock: stray(nil, "a", 1)}}
}

// TestAllSmallOnes is of all objects of some keys and up to three siblings, right or not; two that aren't the same have not the same bytes.
func TestAllSmallOnes(t *testing.T) {
	seen := map[string]bool{}
	for _, key := range []string{"", "k", "k\x02", long(128), long(129)} {
		for _, row := range rows(someSibs(), 3) {
			o := obj(key, row...)
			wantWritten(t, o)
			s, e := object.Encode(o)
			if e != api.OK {
				continue
			}
			if seen[s] {
				t.Fatalf("%.60q are the bytes of two objects", s)
			}
			seen[s] = true
		}
	}
	if len(seen) < 200 {
		t.Fatalf("only %d are right", len(seen))
	}
}

// TestAllSmallOnesAreTheSameOrNot holds all objects of some keys and up to two siblings against each other.
func TestAllSmallOnesAreTheSameOrNot(t *testing.T) {
	var l []api.Object
	for _, key := range []string{"", "k", long(129)} {
		for _, row := range rows(someSibs(), 2) {
			l = append(l, obj(key, row...))
		}
	}
	for i, a := range l {
		for j, b := range l {
			if object.Same(a, b) != (i == j) {
				t.Fatalf("%s and %s: %t", brief(a), brief(b), i != j)
			}
		}
	}
}

// TestAllSmallOnesAtEachLimit puts objects of up to three siblings at pens of all rooms.
func TestAllSmallOnesAtEachLimit(t *testing.T) {
	for _, key := range []string{"", "k", "key"} {
		for _, row := range rows(someSibs()[:9], 3) {
			for room := range 75 {
				wantPut(t, room+1, obj(key, row...))
			}
		}
	}
}

// drawn are texts and objects that follow a rule.
type drawn struct{ x uint32 }

func (d *drawn) next() int {
	d.x = d.x*1664525 + 1013904223
	return int(d.x >> 20)
}

func (d *drawn) text(n int) string {
	b := make([]byte, n)
	for i := range b {
		b[i] = byte(d.next())
	}
	return string(b)
}

// entry is any entry, most often a right one.
func (d *drawn) entry() api.Entry {
	if d.next()%100 == 0 {
		return api.Entry{Actor: d.text(d.next() % 34), Count: uint64(d.next() % 2)}
	}
	return api.Entry{Actor: d.text(1 + d.next()%32), Count: []uint64{1, 127, 128, most, 1 << 63, uint64(1 + d.next()), 1 + uint64(d.next())<<30}[d.next()%7]}
}

// clock is any clock, most often a right one.
func (d *drawn) clock() api.Clock {
	var k api.Clock
	for range d.next() % (1 + d.next()%12) {
		k.Ctx = append(k.Ctx, d.entry())
	}
	if d.next()%8 > 0 {
		slices.SortFunc(k.Ctx, func(a, b api.Entry) int { return strings.Compare(a.Actor, b.Actor) })
	}
	if d.next()%2 > 0 {
		k.Dotted, k.Dot = true, d.entry()
	}
	if k.Dotted && len(k.Ctx) > 0 && d.next()%3 == 0 { // around what the vector knows
		k.Dot = k.Ctx[d.next()%len(k.Ctx)]
		k.Dot.Count += uint64(d.next()%4 - 1)
	}
	if d.next()%40 == 0 {
		k.Dotted = !k.Dotted
	}
	return k
}

// meta is any metadata, most often right.
func (d *drawn) meta() []api.Pair {
	var l []api.Pair
	for range d.next() % (1 + d.next()%10) {
		l = append(l, api.Pair{Name: d.text(1 + d.next()%32), Value: d.text([]int{0, 1, 5, 127, 128, 200}[d.next()%6])})
	}
	if d.next()%8 > 0 {
		slices.SortFunc(l, func(a, b api.Pair) int { return strings.Compare(a.Name, b.Name) })
	}
	if len(l) > 0 && d.next()%10 == 0 {
		l[d.next()%len(l)] = api.Pair{Name: d.text(d.next() % 35), Value: d.text(d.next() % 3)}
	}
	return l
}

// sibling is any sibling, most often a right one.
func (d *drawn) sibling() api.Sibling {
	v := d.text([]int{0, 1, 2, 40, 127, 128, 300}[d.next()%7])
	if d.next()%100 == 0 {
		v = long(32760 + d.next()%12)
	}
	return api.Sibling{Clock: d.clock(), Meta: d.meta(), Dead: d.next()%2 == 0, Value: v}
}

// object is any object, often a right one.
func (d *drawn) object() api.Object {
	o := obj(d.text([]int{1, 2, 5, 127, 128}[d.next()%5]))
	if d.next()%30 == 0 {
		o.Key = d.text([]int{0, 129, 300}[d.next()%3])
	}
	careful := d.next()%4 > 0 // then each of its siblings is right
	for range d.next() % (1 + d.next()%19) {
		x := d.sibling()
		for careful && checkedSib(x) != api.OK {
			x = d.sibling()
		}
		o.Sibs = append(o.Sibs, x)
	}
	if d.next()%5 > 0 {
		o.Sibs = plainSorted(o.Sibs)
	}
	if len(o.Sibs) > 1 && d.next()%10 == 0 {
		o.Sibs[0].Clock = o.Sibs[d.next()%len(o.Sibs)].Clock
	}
	return o
}

// TestAnyTextsAndObjects is of any texts, of any objects, and of objects' bytes, spoiled at some places.
func TestAnyTextsAndObjects(t *testing.T) {
	d := &drawn{1}
	right, sorted := 0, 0
	for range 3000 {
		a, b := d.object(), d.object()
		if checked(a) == api.OK {
			right++
		}
		if _, e := plainSort(a.Key, a.Sibs); e == api.OK {
			sorted++
		}
		wantWritten(t, a)
		wantPut(t, 1+d.next()%4096, a)
		wantSame(t, a, b, alike(a, b))
		wantSame(t, a, cloned(a), true)
		wantSame(t, a, object.Copy(a), true)
		wantPlain(t, d.text(d.next()%40))
		wantPlain(t, "\x01k\x01\x00\x00"+string([]byte{byte(d.next() % 3)})+d.text(d.next()%200))
		s := plainText(a) // also of what isn't right
		wantPlain(t, s)
		wantPlain(t, s+d.text(d.next()%3))
		wantPlain(t, s[:d.next()%(len(s)+1)])
		for range 3 {
			at := d.next() * 4096 % len(s)
			if d.next()%2 > 0 {
				at = d.next() % min(len(s), 60)
			}
			wantPlain(t, s[:at]+d.text(1)+s[at+1:])
			wantPlain(t, s[:at]+d.text(1)+s[at:])
			wantPlain(t, s[:at]+s[at+1:])
		}
	}
	if right < 1000 || sorted < 1300 {
		t.Fatalf("only %d are right, and %d can be sorted", right, sorted)
	}
}
