package cursor_test

import (
	"slices"
	"testing"

	"columbary/api"
	"columbary/cursor"
	"columbary/lex"
)

// names reads names in brackets.
func names(c *cursor.Cursor) []string {
	return cursor.Some(c, "[", "]", func() string { return c.Name("x") })
}

func tokens(t *testing.T, s string) []lex.Token {
	t.Helper()
	l, at, e := lex.Tokens(s)
	if e != api.OK {
		t.Fatalf("Tokens(%q): %d at %d", s, e, at)
	}
	return l
}

// A fault leaves only its place and its number.
func TestRead(t *testing.T) {
	l := tokens(t, "a [b c] [x")
	for i, want := range []struct {
		l  []string
		at int
		e  api.Errno
	}{{nil, 0, api.ErrText}, {[]string{"b", "c"}, 5, api.OK}, {nil, 2, api.ErrText}, {nil, 3, api.ErrText}, {nil, 4, api.ErrText}, {nil, 6, api.ErrText}, {nil, 6, api.ErrText}, {nil, 7, api.ErrText}, {nil, 0, api.ErrArg}} {
		got, at, e := cursor.Read(l, i, names)
		if !slices.Equal(got, want.l) || at != want.at || e != want.e {
			t.Errorf("Read from %d: %q, %d, %d; want %v", i, got, at, e, want)
		}
	}
}

// An offset takes the place of an index, and is 0 without a fault.
func TestText(t *testing.T) {
	for s, want := range map[string]struct {
		n, at int
		e     api.Errno
	}{"[a b]": {2, 0, api.OK}, "  [a,  x]": {0, 7, api.ErrText}, "  [a,  ": {0, 7, api.ErrText}, "x ?": {0, 2, api.ErrText}, " []": {0, 2, api.ErrText}} {
		l, at, e := cursor.Text(s, names)
		if len(l) != want.n || at != want.at || e != want.e {
			t.Errorf("Text(%q): %q, %d, %d; want %v", s, l, at, e, want)
		}
	}
}

// A call goes on behind what was read, or gives up where that did.
func TestCall(t *testing.T) {
	inner := func(l []lex.Token, i int) ([]string, int, api.Errno) { return cursor.Read(l, i, names) }
	outer := func(c *cursor.Cursor) int {
		c.Sign("!")
		n := len(cursor.Call(c, inner))
		c.Sign("!")
		return n
	}
	for s, want := range map[string]struct {
		n, at int
		e     api.Errno
	}{"![a b]!": {2, 0, api.OK}, "![a b": {0, 5, api.ErrText}, "![a b]": {0, 6, api.ErrText}, "![a x]!": {0, 4, api.ErrText}} {
		n, at, e := cursor.Text(s, outer)
		if n != want.n || at != want.at || e != want.e {
			t.Errorf("Text(%q): %d, %d, %d; want %v", s, n, at, e, want)
		}
	}
}

// What a parser itself panics with is no fault of a text.
func TestOtherPanics(t *testing.T) {
	defer func() {
		if r := recover(); r != "other" {
			t.Errorf("recovered %v", r)
		}
	}()
	cursor.Read(tokens(t, "a"), 0, func(*cursor.Cursor) int { panic("other") })
	t.Error("no panic")
}
