package legacy_test

import (
	"slices"
	"strings"
	"testing"

	"spence/api"
	"spence/legacy"
)

// rows are all rows of up to k elements.
func rows[T any](of []T, k int) [][]T {
	all := [][]T{nil}
	for from := 0; k > 0; k-- {
		to := len(all)
		for _, row := range all[from:to] {
			for _, x := range of {
				all = append(all, append(append([]T{}, row...), x))
			}
		}
		from = to
	}
	return all
}

// reader reads a text as the chapters' words say it; behind its first error it reads nothing.
type reader struct {
	s  string
	at int
	e  api.Errno
}

// fail keeps an error, if it is the first one and it holds.
func (r *reader) fail(holds bool, e api.Errno) {
	if r.e == api.OK && holds {
		r.e = e
	}
}

// number reads a number byte by byte. The tenth byte is 1 at most, so the sum isn't beyond 64 bits.
func (r *reader) number() uint64 {
	sum, place := uint64(0), uint64(1)
	for i := 0; r.e == api.OK; i++ {
		if r.at == len(r.s) {
			r.e = api.ErrShort
			break
		}
		b := r.s[r.at]
		r.fail(i == 9 && b > 1, api.ErrOver)
		r.fail(i != 0 && b == 0, api.ErrMinimal)
		if r.e != api.OK {
			break
		}
		r.at++
		sum += uint64(b&127) * place
		place *= 128
		if b < 128 {
			return sum
		}
	}
	return 0
}

// limited reads a number that has a limit.
func (r *reader) limited(limit uint64) int {
	n := r.number()
	r.fail(n > limit, api.ErrLimit)
	if r.e != api.OK {
		return 0
	}
	return int(n)
}

// blob reads a text with its length ahead.
func (r *reader) blob(limit uint64) string {
	n := r.limited(limit)
	r.fail(len(r.s)-r.at < n, api.ErrShort)
	if r.e != api.OK {
		return ""
	}
	r.at += n
	return r.s[r.at-n : r.at]
}

// flag reads a flag.
func (r *reader) flag() bool {
	r.fail(r.at == len(r.s), api.ErrShort)
	if r.e != api.OK {
		return false
	}
	r.at++
	r.fail(r.s[r.at-1] != 0 && r.s[r.at-1] != 1, api.ErrFlag)
	return r.s[r.at-1] == 1
}

// clock reads a vector.
func (r *reader) clock() []api.Entry {
	var v []api.Entry
	ahead := ""
	for n := r.limited(64); n > 0 && r.e == api.OK; n-- {
		x := api.Entry{Actor: r.blob(32)}
		r.fail(x.Actor == "", api.ErrEmpty)
		r.fail(strings.Compare(x.Actor, ahead) <= 0, api.ErrOrder)
		x.Count = r.number()
		r.fail(x.Count == 0, api.ErrZero)
		v = append(v, x)
		ahead = x.Actor
	}
	return v
}

// old reads an old object: a zero one, where there is an error. Two clocks are the same, if the same bytes are written of them.
func (r *reader) old() api.Old {
	o := api.Old{Key: r.blob(128)}
	r.fail(o.Key == "", api.ErrEmpty)
	n := r.limited(16)
	r.fail(n == 0, api.ErrZero)
	seen := map[string]bool{}
	for ; n > 0 && r.e == api.OK; n-- {
		x := api.OldSib{Clock: r.clock()}
		x.Dead = r.flag()
		x.Value = r.blob(32768)
		s := plainClock(x.Clock)
		r.fail(seen[s], api.ErrOrder)
		o.Sibs = append(o.Sibs, x)
		seen[s] = true
	}
	if r.e != api.OK {
		return api.Old{}
	}
	return o
}

// plainNumber are a number's bytes.
func plainNumber(n uint64) string {
	if n < 128 {
		return string([]byte{byte(n)})
	}
	return string([]byte{byte(128 + n%128)}) + plainNumber(n/128)
}

// rule is a named error, and whether it holds.
type rule struct {
	holds bool
	e     api.Errno
}

// first is the error of the first rule that holds.
func first(l ...rule) api.Errno {
	for _, r := range l {
		if r.holds {
			return r.e
		}
	}
	return api.OK
}

// checkedClock is what chapter 10 says of a vector.
func checkedClock(v []api.Entry) api.Errno {
	if len(v) > 64 {
		return api.ErrLimit
	}
	ahead := ""
	for _, x := range v {
		if e := first(rule{len(x.Actor) > 32, api.ErrLimit}, rule{x.Actor == "", api.ErrEmpty}, rule{strings.Compare(x.Actor, ahead) <= 0, api.ErrOrder}, rule{x.Count == 0, api.ErrZero}); e != api.OK {
			return e
		}
		ahead = x.Actor
	}
	return api.OK
}

// checked is what the chapters say of an old object.
func checked(o api.Old) api.Errno {
	if e := first(rule{len(o.Key) > 128, api.ErrLimit}, rule{o.Key == "", api.ErrEmpty}, rule{len(o.Sibs) > 16, api.ErrLimit}, rule{len(o.Sibs) == 0, api.ErrZero}); e != api.OK {
		return e
	}
	seen := map[string]bool{}
	for _, x := range o.Sibs {
		e, s := checkedClock(x.Clock), plainClock(x.Clock)
		if e = first(rule{e != api.OK, e}, rule{len(x.Value) > 32768, api.ErrLimit}, rule{seen[s], api.ErrOrder}); e != api.OK {
			return e
		}
		seen[s] = true
	}
	return api.OK
}

// plainBlob are a text's bytes, with its length ahead.
func plainBlob(s string) string {
	return plainNumber(uint64(len(s))) + s
}

// plainClock are a vector's bytes.
func plainClock(v []api.Entry) string {
	var s strings.Builder
	s.WriteString(plainNumber(uint64(len(v))))
	for _, x := range v {
		s.WriteString(plainBlob(x.Actor) + plainNumber(x.Count))
	}
	return s.String()
}

// plainSib are a sibling's bytes.
func plainSib(x api.OldSib) string {
	flag := "\x00"
	if x.Dead {
		flag = "\x01"
	}
	return plainClock(x.Clock) + flag + plainBlob(x.Value)
}

// plainText are an old object's bytes, also where it isn't right.
func plainText(o api.Old) string {
	var s strings.Builder
	s.WriteString(plainBlob(o.Key) + plainNumber(uint64(len(o.Sibs))))
	for _, x := range o.Sibs {
		s.WriteString(plainSib(x))
	}
	return s.String()
}

// plainAlike is what chapter 17 says of Alike: the siblings are the same in whatever order, if their bytes, sorted, are.
func plainAlike(a, b api.Old) bool {
	if checked(a) != api.OK || checked(b) != api.OK || a.Key != b.Key {
		return false
	}
	sorted := func(l []api.OldSib) []string {
		var texts []string
		for _, x := range l {
			texts = append(texts, plainSib(x))
		}
		slices.Sort(texts)
		return texts
	}
	return slices.Equal(sorted(a.Sibs), sorted(b.Sibs))
}

// wantPlain holds Decode of a text against the plain reading, and what is read against what is written of it.
func wantPlain(t *testing.T, s string) {
	t.Helper()
	r := reader{s: s}
	want := r.old()
	r.fail(r.at < len(s), api.ErrTrail)
	if r.e != api.OK {
		wantDecoded(t, s, api.Old{}, r.e)
		return
	}
	wantDecoded(t, s, want, api.OK)
	wantChecked(t, want, api.OK)
	if len(s) > 65536 {
		wantEncoded(t, want, "", api.ErrLimit)
		return
	}
	wantEncoded(t, want, s, api.OK)
}

// wantWritten holds Check, Encode and Decode of an old object against the plain ones.
func wantWritten(t *testing.T, o api.Old) {
	t.Helper()
	e, s := checked(o), plainText(o)
	wantChecked(t, o, e)
	switch {
	case e != api.OK:
		wantEncoded(t, o, "", e)
		if q, e := legacy.Decode(s); e == api.OK && equal(o, q) {
			t.Fatalf("%s, which isn't right, is read of %.60q", brief(o), s)
		}
	case len(s) > 65536:
		wantEncoded(t, o, "", api.ErrLimit)
		wantDecoded(t, s, o, api.OK)
	default:
		wantEncoded(t, o, s, api.OK)
		wantDecoded(t, s, o, api.OK)
	}
}

// TestAllShortTexts is of all texts of up to two bytes, alone and behind some beginnings, and of all of up to seven edge bytes.
func TestAllShortTexts(t *testing.T) {
	var all []byte
	for i := range 256 {
		all = append(all, byte(i))
	}
	x := "\x01k\x02\x00\x00\x00"
	aheads := []string{"", "\x01", "\x01k", "\x01k\x01", "\x01k\x01\x00", "\x01k\x01\x00\x00", "\x01k\x01\x01", "\x01k\x01\x01\x01a", "\x01k\x01\x01\x01a\x01\x01", "\x01k\x01\x02\x01a\x01\x01", x, x + "\x00", x + "\x01\x01a\x01", x + "\x01\x01a\x01\x00", x + "\x00\x00", "\x80", "\x80\x01" + long(127), "\x01k" + nines[1:], nines[1:]}
	for _, b := range rows(all, 2) {
		for _, ahead := range aheads {
			wantPlain(t, ahead+string(b))
		}
	}
	for _, b := range rows([]byte{0, 1, 2, 16, 128, 255}, 7) {
		wantPlain(t, string(b))
	}
	for _, b := range rows([]byte{0, 1, 2, 3}, 8) {
		wantPlain(t, "\x01k"+string(b))
	}
}

// TestAllRowsOfPieces is of all rows of up to five pieces of old objects, alone and behind a key.
func TestAllRowsOfPieces(t *testing.T) {
	pieces := []string{"\x00", "\x01", "\x02", "\x03", "\x11", "\x01k", "\x81\x01", "\x81\x00", nines + "\x02", "\x00\x00\x00", "\x00\x01\x01v", "\x01\x01a\x01\x00\x01v", "\x01\x01a\x01\x01\x00", "\x01\x01b\x01\x00"}
	for _, row := range rows(pieces, 5) {
		s := strings.Join(row, "")
		wantPlain(t, s)
		wantPlain(t, "\x01k"+s)
	}
}

// someSibs are siblings, right or not.
func someSibs() []api.OldSib {
	return []api.OldSib{{}, sib("", true, "v"), sib("a1", false, "v"), sib("a1", false, "w"), sib("a1", true, "v"), sib("a2", false, "v"), sib("b1", false, "w"), sib("a1 b1", false, ""), sib("a1 b300", true, ""), sib("a0", false, ""), sib("b1 a1", false, ""), {Clock: vec("a1"), Value: tooGreatValue}}
}

// TestAllSmallOnes is of all old objects of some keys and up to three siblings, right or not; two that aren't the same have not the same bytes.
func TestAllSmallOnes(t *testing.T) {
	seen := map[string]bool{}
	for _, key := range []string{"", "k", "k\x02", long(128), long(129)} {
		for _, row := range rows(someSibs(), 3) {
			o := old(key, row...)
			wantWritten(t, o)
			s, e := legacy.Encode(o)
			if e != api.OK {
				continue
			}
			if seen[s] {
				t.Fatalf("%.60q are the bytes of two old objects", s)
			}
			seen[s] = true
		}
	}
	if len(seen) < 200 {
		t.Fatalf("only %d are right", len(seen))
	}
}

// TestAllSmallOnesAreTheSameOrAlike holds all old objects of some keys and up to two siblings, and those of few siblings and up to four, against each other.
func TestAllSmallOnesAreTheSameOrAlike(t *testing.T) {
	var l []api.Old
	for _, key := range []string{"", "k", long(129)} {
		for _, row := range rows(someSibs(), 2) {
			l = append(l, old(key, row...))
		}
	}
	for _, row := range rows(someSibs()[1:4], 4) {
		if len(row) > 2 {
			l = append(l, old("k", row...))
		}
	}
	alike := 0
	for i, a := range l {
		for j, b := range l {
			if legacy.Same(a, b) != (i == j) {
				t.Fatalf("%s and %s: %t", brief(a), brief(b), i != j)
			}
			want := plainAlike(a, b)
			if legacy.Alike(a, b) != want {
				t.Fatalf("%s and %s: %t", brief(a), brief(b), !want)
			}
			if want {
				alike++
			}
		}
	}
	if alike < 100 {
		t.Fatalf("only %d are alike", alike)
	}
}

// drawn are texts and old objects that follow a rule.
type drawn struct{ x uint32 }

func (d *drawn) next() int {
	d.x = d.x*1664525 + 1013904223
	return int(d.x >> 20)
}

func (d *drawn) text(n int) string {
	b := make([]byte, n)
	for i := range b {
		b[i] = byte(d.next())
	}
	return string(b)
}

// entry is any entry, most often a right one.
func (d *drawn) entry() api.Entry {
	if d.next()%100 == 0 {
		return api.Entry{Actor: d.text(d.next() % 34), Count: uint64(d.next() % 2)}
	}
	return api.Entry{Actor: d.text(1 + d.next()%32), Count: []uint64{1, 127, 128, most, 1 << 63, uint64(1 + d.next()), 1 + uint64(d.next())<<30}[d.next()%7]}
}

// clock is any vector, most often a right one.
func (d *drawn) clock() []api.Entry {
	var v []api.Entry
	for range d.next() % (1 + d.next()%12) {
		v = append(v, d.entry())
	}
	if d.next()%8 > 0 {
		slices.SortFunc(v, func(a, b api.Entry) int { return strings.Compare(a.Actor, b.Actor) })
	}
	return v
}

// sibling is any sibling, most often a right one.
func (d *drawn) sibling() api.OldSib {
	v := d.text([]int{0, 1, 2, 40, 127, 128, 300}[d.next()%7])
	if d.next()%100 == 0 {
		v = long(32760 + d.next()%12)
	}
	return api.OldSib{Clock: d.clock(), Dead: d.next()%2 == 0, Value: v}
}

// old is any old object, often a right one.
func (d *drawn) old() api.Old {
	o := old(d.text([]int{1, 2, 5, 127, 128}[d.next()%5]))
	if d.next()%30 == 0 {
		o.Key = d.text([]int{0, 129, 300}[d.next()%3])
	}
	for range d.next() % (1 + d.next()%19) {
		x := d.sibling()
		if d.next()%4 > 0 { // a clock that no other one has
			x.Clock = append(one("\x00", uint64(1+len(o.Sibs))), one("\x00\x00", uint64(1+d.next()))...)
		}
		o.Sibs = append(o.Sibs, x)
	}
	if len(o.Sibs) > 1 && d.next()%10 == 0 {
		o.Sibs[d.next()%len(o.Sibs)].Clock = o.Sibs[0].Clock
	}
	return o
}

// shuffled is an old object with its siblings in another order, and sometimes with one part that is another one.
func (d *drawn) shuffled(o api.Old) api.Old {
	o = cloned(o)
	for i := range o.Sibs {
		j := d.next() % (i + 1)
		o.Sibs[i], o.Sibs[j] = o.Sibs[j], o.Sibs[i]
	}
	if len(o.Sibs) == 0 {
		return o
	}
	x := &o.Sibs[d.next()%len(o.Sibs)]
	switch d.next() % 10 {
	case 0:
		o.Key += "k"
	case 1:
		x.Value += "v"
	case 2:
		x.Dead = !x.Dead
	case 3:
		x.Clock = d.clock()
	case 4:
		o.Sibs = o.Sibs[1:]
	}
	return o
}

// TestAnyTextsAndOldObjects is of any texts, of any old objects, and of old objects' bytes, spoiled at some places.
func TestAnyTextsAndOldObjects(t *testing.T) {
	d := &drawn{1}
	right, alike := 0, 0
	for range 4000 {
		a, b := d.old(), d.old()
		if checked(a) == api.OK {
			right++
		}
		wantWritten(t, a)
		wantSame(t, a, b, equal(a, b))
		wantSame(t, a, cloned(a), true)
		wantAlike(t, a, b, plainAlike(a, b))
		other := d.shuffled(a)
		if plainAlike(a, other) {
			alike++
		}
		wantAlike(t, a, other, plainAlike(a, other))
		wantSame(t, a, other, equal(a, other))
		wantPlain(t, d.text(d.next()%40))
		wantPlain(t, "\x01k\x01\x00"+string([]byte{byte(d.next() % 3)})+d.text(d.next()%200))
		s := plainText(a) // also of what isn't right
		wantPlain(t, s)
		wantPlain(t, s+d.text(d.next()%3))
		wantPlain(t, s[:d.next()%(len(s)+1)])
		for range 3 {
			at := d.next() * 4096 % len(s)
			if d.next()%2 > 0 {
				at = d.next() % min(len(s), 60)
			}
			wantPlain(t, s[:at]+d.text(1)+s[at+1:])
			wantPlain(t, s[:at]+d.text(1)+s[at:])
			wantPlain(t, s[:at]+s[at+1:])
		}
	}
	if right < 1500 || alike < 800 {
		t.Fatalf("only %d are right, and %d are alike", right, alike)
	}
}
