package upgrade_test

import (
	"slices"
	"strings"
	"testing"

	"spence/api"
	"spence/legacy"
	"spence/object"
	"spence/upgrade"
)

// rows are all rows of up to k elements.
func rows[T any](of []T, k int) [][]T {
	all := [][]T{nil}
	for from := 0; k > 0; k-- {
		to := len(all)
		for _, row := range all[from:to] {
			for _, x := range of {
				all = append(all, append(append([]T{}, row...), x))
			}
		}
		from = to
	}
	return all
}

// plainNumber are a number's bytes.
func plainNumber(n uint64) string {
	if n < 128 {
		return string([]byte{byte(n)})
	}
	return string([]byte{byte(128 + n%128)}) + plainNumber(n/128)
}

// plainBlob are a text's bytes, with its length ahead.
func plainBlob(s string) string {
	return plainNumber(uint64(len(s))) + s
}

// plainClock are a vector's bytes; a clock without a dot has one more, which is the same in all of them.
func plainClock(v []api.Entry) string {
	var s strings.Builder
	s.WriteString(plainNumber(uint64(len(v))))
	for _, x := range v {
		s.WriteString(plainBlob(x.Actor) + plainNumber(x.Count))
	}
	return s.String()
}

// plainUp is what the chapter says of a right old object, upgraded: each sibling is put in its place. Of one that isn't right it is a zero one.
func plainUp(o api.Old) api.Object {
	if legacy.Check(o) != api.OK {
		return api.Object{}
	}
	var l []api.Sibling
	for _, x := range o.Sibs {
		at := 0
		for at < len(l) && plainClock(l[at].Clock.Ctx) < plainClock(x.Clock) {
			at++
		}
		l = slices.Insert(l, at, api.Sibling{Clock: api.Clock{Ctx: x.Clock}, Dead: x.Dead, Value: x.Value})
	}
	return obj(o.Key, l...)
}

// plainly is what the chapter says of an object: is it right, and has no sibling a dot, or metadata?
func plainly(o api.Object) bool {
	for _, x := range o.Sibs {
		if x.Clock.Dotted || len(x.Meta) != 0 {
			return false
		}
	}
	return object.Check(o) == api.OK
}

// wantUpgraded holds Up of an old object against the chapter's words, and what comes of it against what it was.
func wantUpgraded(t *testing.T, o api.Old) {
	t.Helper()
	e, q := legacy.Check(o), plainUp(o)
	wantUp(t, o, q, e)
	if e != api.OK {
		return
	}
	if e := object.Check(q); e != api.OK {
		t.Fatalf("%s became %s: %d", brief(o), brief(q), e)
	}
	wantPlain(t, q, true)
	wantDown(t, q, rises(q), api.OK)
	if !legacy.Alike(rises(q), o) {
		t.Fatalf("%s became %s", brief(o), brief(rises(q)))
	}
	wantUp(t, rises(q), q, api.OK)
}

// wantPlainly holds Plain and Down of an object against the chapter's words.
func wantPlainly(t *testing.T, o api.Object) {
	t.Helper()
	want := plainly(o)
	wantPlain(t, o, want)
	if !want {
		return
	}
	wantDown(t, o, rises(o), api.OK)
	wantUp(t, rises(o), o, api.OK)
}

// wantReadOfAll holds Read of a text as each version against the layers below: what is read is right, and of version 1 plain.
func wantReadOfAll(t *testing.T, s string) {
	t.Helper()
	o, e := legacy.Decode(s)
	wantRead(t, 1, s, plainUp(o), e)
	if e == api.OK {
		wantPlain(t, plainUp(o), true)
	}
	q, e := object.Decode(s)
	wantRead(t, 2, s, q, e)
	for _, version := range []byte{0, 3, 128, 255} {
		wantRead(t, version, s, api.Object{}, api.ErrVersion)
	}
}

// TestAllShortTexts is of all texts of up to two bytes, alone and behind some beginnings, and of all of up to six edge bytes.
func TestAllShortTexts(t *testing.T) {
	var all []byte
	for i := range 256 {
		all = append(all, byte(i))
	}
	for _, b := range rows(all, 2) {
		for _, ahead := range []string{"", "\x01k\x01", "\x01k\x01\x00", "\x01k\x01\x00\x00\x00", "\x01k\x01\x01\x01a\x01", "\x01k\x02\x01\x01b\x01\x00\x00", "\x01k\x02\x00\x00\x00\x00\x00\x00"} {
			wantReadOfAll(t, ahead+string(b))
		}
	}
	for _, b := range rows([]byte{0, 1, 2, 128}, 7) {
		wantReadOfAll(t, "\x01k"+string(b))
	}
}

// TestAllRowsOfPieces is of all rows of up to four pieces of old objects and of objects, behind a key.
func TestAllRowsOfPieces(t *testing.T) {
	pieces := []string{"\x00", "\x01", "\x02", "\x03", "\x11", "\x81\x00", "\x00\x00\x00", "\x00\x01\x01v", "\x01\x01a\x01\x00\x01v", "\x01\x01a\x01\x01\x00", "\x01\x01b\x01\x00", "\x00\x00\x00\x00\x00", "\x01\x01a\x01\x00\x00\x00\x01v", "\x01\x01b\x01\x00\x00\x01\x00", "\x00\x01\x01a\x01\x00\x00\x01v", "\x00\x00\x01\x01n\x00\x00\x00"}
	for _, row := range rows(pieces, 4) {
		wantReadOfAll(t, "\x01k"+strings.Join(row, ""))
	}
}

// someOlds are siblings of version 1, right or not.
func someOlds() []api.OldSib {
	return []api.OldSib{{}, sib("", true, "v"), sib("a1", false, "v"), sib("a1", true, "w"), sib("a256", false, "v"), sib("a129", true, ""), sib("b1", false, "w"), sib("a1 b1", false, ""), sib("a0", false, ""), sib("b1 a1", false, ""), {Clock: vec("a2"), Value: tooGreatValue}}
}

// TestAllSmallOldObjects is of all old objects of some keys and up to three siblings, right or not.
func TestAllSmallOldObjects(t *testing.T) {
	right := 0
	for _, key := range []string{"", "k", long(128), long(129)} {
		for _, row := range rows(someOlds(), 3) {
			o := old(key, row...)
			wantUpgraded(t, o)
			if legacy.Check(o) == api.OK {
				right++
			}
		}
	}
	for _, row := range rows(someOlds()[4:8], 5) {
		wantUpgraded(t, old("k", row...))
	}
	if right < 300 {
		t.Fatalf("only %d are right", right)
	}
}

// TestAllSmallOldObjectsComeToTheSameJustIfTheyAreAlike holds those that are right against each other.
func TestAllSmallOldObjectsComeToTheSameJustIfTheyAreAlike(t *testing.T) {
	var l []api.Old
	var up []api.Object
	for _, key := range []string{"k", "kk"} {
		for _, row := range rows(someOlds()[:8], 3) {
			if o := old(key, row...); legacy.Check(o) == api.OK {
				q, _ := upgrade.Up(o)
				l, up = append(l, o), append(up, q)
			}
		}
	}
	alike := 0
	for i := range l {
		for j := range l {
			want := legacy.Alike(l[i], l[j])
			if object.Same(up[i], up[j]) != want {
				t.Fatalf("%s and %s: not %t", brief(l[i]), brief(l[j]), want)
			}
			if want && i != j {
				alike++
			}
		}
	}
	if alike < 500 {
		t.Fatalf("only %d are alike", alike)
	}
}

// someSibs are siblings of version 2, right or not, plain or not.
func someSibs() []api.Sibling {
	l := []api.Sibling{{}, nsib("", true, "v"), nsib("a1", false, "v"), nsib("a129", true, ""), nsib("b1", false, ""), nsib("a0", false, ""), {Value: tooGreatValue}}
	a, b, c, d := nsib("a1", false, "v"), nsib("b1", false, "v"), nsib("c1", false, "v"), nsib("a1", false, "v")
	a.Clock.Dotted, a.Clock.Dot = true, api.Entry{Actor: "a", Count: 2}
	b.Meta = []api.Pair{{Name: "n"}}
	c.Meta = []api.Pair{{Name: "o"}, {Name: "n"}}
	d.Clock.Dot = api.Entry{Actor: "a", Count: 2}
	return append(l, a, b, c, d)
}

// TestAllSmallObjects is of all objects of some keys and up to three siblings, right or not, plain or not.
func TestAllSmallObjects(t *testing.T) {
	plain := 0
	for _, key := range []string{"", "k", long(128), long(129)} {
		for _, row := range rows(someSibs(), 3) {
			o := obj(key, row...)
			wantPlainly(t, o)
			if plainly(o) {
				plain++
			}
		}
	}
	if plain < 40 {
		t.Fatalf("only %d are plain", plain)
	}
}

// drawn are texts, old objects and objects that follow a rule.
type drawn struct{ x uint32 }

func (d *drawn) next() int {
	d.x = d.x*1664525 + 1013904223
	return int(d.x >> 20)
}

func (d *drawn) text(n int) string {
	b := make([]byte, n)
	for i := range b {
		b[i] = byte(d.next())
	}
	return string(b)
}

// entry is any entry, most often a right one.
func (d *drawn) entry() api.Entry {
	if d.next()%100 == 0 {
		return api.Entry{Actor: d.text(d.next() % 34), Count: uint64(d.next() % 2)}
	}
	return api.Entry{Actor: d.text(1 + d.next()%32), Count: []uint64{1, 127, 128, most, 1 << 63, uint64(1 + d.next()), 1 + uint64(d.next())<<30}[d.next()%7]}
}

// clock is any vector, most often a right one.
func (d *drawn) clock() []api.Entry {
	var v []api.Entry
	for range d.next() % (1 + d.next()%12) {
		v = append(v, d.entry())
	}
	if d.next()%16 > 0 {
		slices.SortFunc(v, func(a, b api.Entry) int { return strings.Compare(a.Actor, b.Actor) })
	}
	return v
}

// old is any old object, often a right one.
func (d *drawn) old() api.Old {
	o := old(d.text([]int{1, 2, 5, 127, 128}[d.next()%5]))
	if d.next()%30 == 0 {
		o.Key = d.text([]int{0, 129, 300}[d.next()%3])
	}
	for range d.next() % (1 + d.next()%19) {
		x := api.OldSib{Clock: d.clock(), Dead: d.next()%2 == 0, Value: d.text([]int{0, 1, 2, 40, 127, 128, 300}[d.next()%7])}
		if d.next()%4 > 0 { // a clock that no other one has
			x.Clock = append(one("\x00", uint64(1+len(o.Sibs))), one("\x00\x00", uint64(1+d.next()))...)
		}
		if d.next()%100 == 0 {
			x.Value = long(32760 + d.next()%12)
		}
		o.Sibs = append(o.Sibs, x)
	}
	for i := range o.Sibs {
		j := d.next() % (i + 1)
		o.Sibs[i], o.Sibs[j] = o.Sibs[j], o.Sibs[i]
	}
	if len(o.Sibs) > 1 && d.next()%10 == 0 {
		o.Sibs[d.next()%len(o.Sibs)].Clock = o.Sibs[0].Clock
	}
	return o
}

// object is any object, made of an old one: plain, not plain, or not right.
func (d *drawn) object(o api.Old) api.Object {
	q := cloned(plainUp(o))
	if len(q.Sibs) == 0 {
		return q
	}
	at := d.next() % len(q.Sibs)
	x := &q.Sibs[at]
	switch d.next() % 8 {
	case 0:
		beyond()[d.next()%len(beyond())](x)
	case 1:
		x.Clock.Dot = d.entry()
	case 2:
		x.Clock.Dotted, x.Clock.Dot = true, d.entry()
	case 3:
		x.Meta = []api.Pair{{Name: d.text(d.next() % 40), Value: d.text(d.next() % 3)}}
	case 4:
		x.Clock.Ctx = d.clock()
	case 5:
		q.Sibs = turned(q.Sibs, at)
	}
	return q
}

// spoiltText is a text in which some byte is another one, is gone, or comes twice.
func (d *drawn) spoiltText(s string) string {
	at := d.next() * 4096 % len(s)
	if d.next()%2 > 0 {
		at = d.next() % min(len(s), 60)
	}
	switch d.next() % 3 {
	case 0:
		return s[:at] + d.text(1) + s[at+1:]
	case 1:
		return s[:at] + d.text(1) + s[at:]
	}
	return s[:at] + s[at+1:]
}

// TestAnyTextsOldObjectsAndObjects is of any texts, any old objects, any objects, and their bytes, spoiled at some places.
func TestAnyTextsOldObjectsAndObjects(t *testing.T) {
	d := &drawn{1}
	right, plain, more := 0, 0, 0
	for range 5000 {
		o := d.old()
		wantUpgraded(t, o)
		q := d.object(o)
		wantPlainly(t, q)
		switch {
		case plainly(q):
			plain++
		case object.Check(q) == api.OK:
			more++
		}
		wantReadOfAll(t, d.text(d.next()%40))
		wantReadOfAll(t, "\x01k\x01\x00"+string([]byte{byte(d.next() % 3)})+d.text(d.next()%100))
		if legacy.Check(o) != api.OK {
			continue
		}
		right++
		s, _ := legacy.Encode(o)
		u, _ := object.Encode(q)
		for _, s := range []string{s, u} { // empty, where it is too great or isn't right
			wantReadOfAll(t, s)
			wantReadOfAll(t, s+d.text(d.next()%3))
			wantReadOfAll(t, s[:d.next()%(len(s)+1)])
			if s != "" {
				wantReadOfAll(t, d.spoiltText(s))
			}
		}
	}
	if right < 2000 || plain < 500 || more < 200 {
		t.Fatalf("only %d are right, %d plain, %d have more", right, plain, more)
	}
}
