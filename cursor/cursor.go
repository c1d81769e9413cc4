// Package cursor is layer 1: bytes that are read from the left.
package cursor

import (
	"spence/api"
)

// Cursor reads bytes from the left. Its first error stays, and nothing is read from then on.
type Cursor struct {
	text string
	at   int // from 0 to the text's length, always
	err  api.Errno
}

// New is a cursor at the beginning of a text.
func New(s string) *Cursor {
	return &Cursor{text: s}
}

// upTo tells whether n is from 0 to what a method tells. All readings ask by it, so that no sum of n and a place is made that could be beyond an int.
func upTo(n int, told func() int) bool {
	return 0 <= n && n <= told()
}

// Ahead are the next bytes, which aren't read.
func (c *Cursor) Ahead(n int) string {
	if c == nil || n < 0 {
		return ""
	}
	if !upTo(n, c.Left) {
		return c.text[c.at:]
	}
	return c.text[c.at : c.at+n]
}

// Fail keeps an error, if it is the first one.
func (c *Cursor) Fail(e api.Errno) {
	if c != nil && c.err == api.OK {
		c.err = e
	}
}

// Err is the error.
func (c *Cursor) Err() api.Errno {
	if c == nil {
		return api.ErrArg
	}
	return c.err
}

// At is the place.
func (c *Cursor) At() int {
	if c == nil {
		return 0
	}
	return c.at
}

// Left is how many bytes are left.
func (c *Cursor) Left() int {
	if c == nil {
		return 0
	}
	return len(c.text) - c.at
}

// Bytes are the next bytes.
func (c *Cursor) Bytes(n int) string {
	if c.Err() != api.OK {
		return ""
	}
	if n < 0 {
		c.Fail(api.ErrArg)
		return ""
	}
	if !upTo(n, c.Left) {
		c.Fail(api.ErrShort)
		return ""
	}
	from := c.at
	c.at += n
	return c.Since(from)
}

// Byte is the next byte.
func (c *Cursor) Byte() byte {
	s := c.Bytes(1)
	if s == "" {
		return 0
	}
	return s[0]
}

// Since are the bytes from a place up to the next one. They were read already, so an error doesn't hide them.
func (c *Cursor) Since(from int) string {
	if c == nil || !upTo(from, c.At) {
		return ""
	}
	return c.text[from:c.at]
}

// End tells whether all was read.
func (c *Cursor) End() api.Errno {
	if c.Left() > 0 {
		c.Fail(api.ErrTrail)
	}
	return c.Err()
}
