package cursor_test

import (
	"fmt"
	"math"
	"testing"

	"spence/api"
	"spence/cursor"
)

// plain is a cursor as the document's words say it: the bytes that were read, those that weren't, and the error.
type plain struct {
	read, rest []byte
	err        api.Errno
}

func (p *plain) bytes(n int) string {
	switch {
	case p.err != api.OK:
	case n < 0:
		p.err = api.ErrArg
	case n > len(p.rest):
		p.err = api.ErrShort
	default:
		s := string(p.rest[:n])
		p.read, p.rest = append(p.read, s...), p.rest[n:]
		return s
	}
	return ""
}

func (p *plain) ahead(n int) string {
	out := ""
	for i := 0; i < len(p.rest) && i < n; i++ {
		out += string(p.rest[i : i+1])
	}
	return out
}

func (p *plain) since(from int) string {
	out := ""
	for i := len(p.read) - 1; i >= from && from >= 0; i-- {
		out = string(p.read[i:i+1]) + out
	}
	return out
}

func (p *plain) fail(e api.Errno) {
	if p.err == api.OK {
		p.err = e
	}
}

func (p *plain) end() api.Errno {
	if len(p.rest) > 0 {
		p.fail(api.ErrTrail)
	}
	return p.err
}

// step is one call, done to both; their answers are told as texts.
type step struct {
	name  string
	given func(*cursor.Cursor) string
	plain func(*plain) string
}

func steps() []step {
	l := []step{
		{"Byte", func(c *cursor.Cursor) string { return fmt.Sprint(c.Byte()) }, func(p *plain) string {
			if s := p.bytes(1); s != "" {
				return fmt.Sprint(s[0])
			}
			return "0"
		}},
		{"End", func(c *cursor.Cursor) string { return fmt.Sprint(c.End()) }, func(p *plain) string { return fmt.Sprint(p.end()) }},
	}
	for _, n := range []int{math.MinInt, -1, 0, 1, 2, 3, math.MaxInt} {
		l = append(l,
			step{fmt.Sprintf("Bytes(%d)", n), func(c *cursor.Cursor) string { return c.Bytes(n) }, func(p *plain) string { return p.bytes(n) }},
			step{fmt.Sprintf("Ahead(%d)", n), func(c *cursor.Cursor) string { return c.Ahead(n) }, func(p *plain) string { return p.ahead(n) }},
			step{fmt.Sprintf("Since(%d)", n), func(c *cursor.Cursor) string { return c.Since(n) }, func(p *plain) string { return p.since(n) }})
	}
	for _, e := range []api.Errno{api.OK, api.ErrSum, -7} {
		l = append(l, step{fmt.Sprintf("Fail(%d)", e), func(c *cursor.Cursor) string { c.Fail(e); return "" }, func(p *plain) string { p.fail(e); return "" }})
	}
	return l
}

// TestAllShortWalks does every row of three calls to every short text, and holds each answer, and the state behind it, against the plain cursor's.
func TestAllShortWalks(t *testing.T) {
	all := steps()
	for _, s := range []string{"", "a", "\x00b", "a\xff\x00"} {
		for n := range len(all) * len(all) * len(all) {
			c, p, walk := cursor.New(s), &plain{rest: []byte(s)}, ""
			for range 3 {
				x := all[n%len(all)]
				n /= len(all)
				walk += " " + x.name
				if got, want := x.given(c), x.plain(p); got != want {
					t.Fatalf("of %q,%s: %q, not %q", s, walk, got, want)
				}
				w := state{p.err, len(p.read), len(p.rest), string(p.read), string(p.rest)}
				if got := stateOf(c); got != w {
					t.Fatalf("of %q, behind%s: %+v, not %+v", s, walk, got, w)
				}
			}
		}
	}
}
