package pen_test

import (
	"fmt"
	"math"
	"testing"

	"spence/api"
	"spence/pen"
)

// plain is a pen as the document's words say it.
type plain struct {
	text string
	max  int
	err  api.Errno
}

func (p *plain) write(l ...string) {
	for _, s := range l {
		switch {
		case p.err != api.OK:
		case len(p.text+s) > p.max:
			p.err = api.ErrLimit
		default:
			p.text += s
		}
	}
}

func (p *plain) fail(e api.Errno) {
	if p.err == api.OK {
		p.err = e
	}
}

func (p *plain) state() state {
	if p.err != api.OK {
		return state{err: p.err, end: p.err, n: len(p.text)}
	}
	return state{n: len(p.text), text: p.text}
}

// step is one call, done to both.
type step struct {
	name  string
	given func(*pen.Pen)
	plain func(*plain)
}

func steps() []step {
	var l []step
	for _, s := range []string{"", "a", "\x00\xff", "abc"} {
		var each []string
		for i := range len(s) {
			each = append(each, s[i:i+1])
		}
		l = append(l, step{fmt.Sprintf("Byte(%q)", s), func(p *pen.Pen) { p.Byte([]byte(s)...) }, func(p *plain) { p.write(each...) }})
	}
	for _, s := range [][]string{nil, {""}, {"a"}, {"bc"}, {"", "a", "", "bc"}, {"bc", "a"}, {"abc", "d"}, {"abcdef"}} {
		l = append(l, step{fmt.Sprintf("Text(%q)", s), func(p *pen.Pen) { p.Text(s...) }, func(p *plain) { p.write(s...) }})
	}
	for _, e := range []api.Errno{api.OK, api.ErrSum, -7} {
		l = append(l, step{fmt.Sprintf("Fail(%d)", e), func(p *pen.Pen) { p.Fail(e) }, func(p *plain) { p.fail(e) }})
	}
	return l
}

// TestAllShortWalks does every row of three calls to pens with every small limit, and those at the ends, and holds the state behind each call against the plain pen's.
func TestAllShortWalks(t *testing.T) {
	all := steps()
	for _, limit := range []int{math.MinInt, -1, 0, 1, 2, 3, 4, 5, 6, 7, math.MaxInt} {
		for n := range len(all) * len(all) * len(all) {
			given, told, walk := pen.New(limit), &plain{max: max(limit, 0)}, ""
			for range 3 {
				x := all[n%len(all)]
				n /= len(all)
				walk += " " + x.name
				x.given(given)
				x.plain(told)
				if got, want := stateOf(given), told.state(); got != want {
					t.Fatalf("with the limit %d, behind%s: %#v, not %#v", limit, walk, got, want)
				}
			}
		}
	}
}
