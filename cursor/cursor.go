// Package cursor reads tokens one after the other, for the parsers of documents and of type definitions. It gives up by a panic at the first token that is not allowed; Read and Text catch that.
package cursor

import (
	"slices"

	"columbary/api"
	"columbary/lex"
)

// Cursor is at the token that comes next; after a fault, at that of the fault.
type Cursor struct {
	tokens []lex.Token
	at     int
}

// fault tells what a cursor gave up with from any other panic.
type fault struct {
	e api.Errno
}

// Read returns what begins at l[i], and the index of the token after it, or of the one at fault.
func Read[T any](l []lex.Token, i int, thing func(c *Cursor) T) (x T, at int, e api.Errno) {
	if i < 0 || i >= len(l) {
		return x, 0, api.ErrArg
	}
	c := &Cursor{tokens: l, at: i}
	defer func() {
		r := recover()
		if r == nil {
			return
		}
		f, ok := r.(fault)
		if !ok {
			panic(r)
		}
		at, e = c.at, f.e
	}()
	x = thing(c)
	return x, c.at, api.OK
}

// Text returns what a whole text is, or the offset of its first fault; one that lex finds is reported whatever comes before it.
func Text[T any](s string, thing func(c *Cursor) T) (T, int, api.Errno) {
	var none T
	l, at, e := lex.Tokens(s)
	if e != api.OK {
		return none, at, e
	}
	x, i, e := Read(l, 0, thing)
	if e != api.OK {
		return none, l[i].At, e
	}
	return x, 0, api.OK
}

// Call reads what another parser of tokens reads, and gives up with its fault.
func Call[T any](c *Cursor, parser func(l []lex.Token, i int) (T, int, api.Errno)) T {
	x, i, e := parser(c.tokens, c.at)
	c.at = i
	if e != api.OK {
		c.Fail(e)
	}
	return x
}

// Any reads items between two signs; there may be none.
func Any[T any](c *Cursor, first, last string, item func() T) []T {
	var l []T
	c.Sign(first)
	for !c.SkipSign(last) {
		l = append(l, item())
	}
	return l
}

// Some reads one item or more between two signs.
func Some[T any](c *Cursor, first, last string, item func() T) []T {
	c.Sign(first)
	l := []T{item()}
	for !c.SkipSign(last) {
		l = append(l, item())
	}
	return l
}

// Maybe reads as Some does, if the first sign is there.
func Maybe[T any](c *Cursor, first, last string, item func() T) []T {
	if !c.SeesSign(first) {
		return nil
	}
	return Some(c, first, last, item)
}

// Apart reads one item or more with a sign between them, and perhaps before the first.
func Apart[T any](c *Cursor, sign string, item func() T) []T {
	c.SkipSign(sign)
	l := []T{item()}
	for c.SkipSign(sign) {
		l = append(l, item())
	}
	return l
}

func (c *Cursor) Fail(e api.Errno) {
	panic(fault{e})
}

// Peek returns an End behind the last token: a list need not have one.
func (c *Cursor) Peek() lex.Token {
	if c.at >= len(c.tokens) {
		return lex.Token{Kind: lex.End}
	}
	return c.tokens[c.at]
}

// Next must not be called at the End.
func (c *Cursor) Next() lex.Token {
	t := c.Peek()
	c.at++
	return t
}

func (c *Cursor) Ended() bool {
	return c.Peek().Kind == lex.End
}

func (c *Cursor) SeesName() bool {
	return c.Peek().Kind == lex.Name
}

func (c *Cursor) SeesSign(s string) bool {
	return c.sees(lex.Sign, s)
}

func (c *Cursor) SkipName(s string) bool {
	return c.skip(lex.Name, s)
}

func (c *Cursor) SkipSign(s string) bool {
	return c.skip(lex.Sign, s)
}

func (c *Cursor) Sign(s string) {
	if !c.SkipSign(s) {
		c.Fail(api.ErrText)
	}
}

// Name reads any name but some.
func (c *Cursor) Name(but ...string) string {
	if !c.SeesName() || slices.Contains(but, c.Peek().Text) {
		c.Fail(api.ErrText)
	}
	return c.Next().Text
}

func (c *Cursor) sees(kind byte, text string) bool {
	t := c.Peek()
	return t.Kind == kind && t.Text == text
}

func (c *Cursor) skip(kind byte, text string) bool {
	if !c.sees(kind, text) {
		return false
	}
	c.Next()
	return true
}
