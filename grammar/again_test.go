package grammar

import (
	"fmt"
	"math/rand"
	"testing"

	"columbary/api"
	"columbary/lex"
	"columbary/parse"
	"columbary/print"
	"columbary/sdl"
)

// again checks that a text, and the same text with other things between its tokens, is parsed to what was printed.
func again[T any](t *testing.T, m *maker, want T, s string, parse func(s string) (T, int, api.Errno)) {
	t.Helper()
	for _, s := range []string{s, m.respaced(s)} {
		if len(s) > api.MaxText {
			continue
		}
		got, at, e := parse(s)
		// Printed in this way, nil is not told from empty.
		if g, w := fmt.Sprintf("%+v", got), fmt.Sprintf("%+v", want); g != w || at != 0 || e != api.OK {
			t.Fatalf("%q: %s, %d, %d; want %s", s, g, at, e, w)
		}
	}
}

// alone parses a whole text by a parser of tokens.
func alone[T any](parse func(l []lex.Token, i int) (T, int, api.Errno)) func(s string) (T, int, api.Errno) {
	return func(s string) (T, int, api.Errno) {
		l, at, e := lex.Tokens(s)
		if e != api.OK {
			var none T
			return none, at, e
		}
		x, i, e := parse(l, 0)
		return x, i - (len(l) - 1), e
	}
}

// P8.3, and P6.1, P6.2, P7.1: what was parsed is printed, and parsed again to the same, whatever is between its tokens.
func TestAgain(t *testing.T) {
	m := &maker{Rand: rand.New(rand.NewSource(8))}
	for range 20000 {
		d := m.document()
		again(t, m, d, print.Document(d), parse.Document)
		l := m.types()
		again(t, m, l, print.Types(l), sdl.Types)
		for _, fixed := range []bool{false, true} {
			v := m.value(fixed)
			again(t, m, v, print.Value(v), alone(func(l []lex.Token, i int) (api.Value, int, api.Errno) { return parse.Value(l, i, fixed) }))
		}
		r := m.typ()
		again(t, m, r, print.Type(r), alone(parse.Type))
		x := nested(m, m.selection)
		set := api.Doc{Ops: []api.Operation{{Sub: []api.Selection{x}}}}
		again(t, m, set, "{"+print.Selection(x)+"}", parse.Document)
	}
}

// P8.3: as deep as can be parsed.
func TestDeepAgain(t *testing.T) {
	const n = api.MaxNest
	for _, s := range []string{
		many("{a", n) + many("}", n), many("{...on T", n-1) + "{a" + many("}", n), "{a(b:" + many("[", n-1) + many("]", n-1) + ")}", "{...F@d(b:" + many("{c:", n-2) + "$e" + many("}", n-2) + ")}",
		"query($a:" + many("[", n-1) + "B" + many("]!", n-1) + "=" + many("[", n-1) + "1" + many("]", n-1) + "){a}",
	} {
		d, at, e := parse.Document(s)
		if e != api.OK {
			t.Fatalf("%q: %d at %d", s, e, at)
		}
		again(t, &maker{Rand: rand.New(rand.NewSource(9))}, d, print.Document(d), parse.Document)
	}
	for _, s := range []string{"type A{b:" + many("[", n-1) + "C" + many("]!", n-1) + "}", "input A{b:C=" + many("{d:", n-1) + "{}" + many("}", n-1) + "}"} {
		l, at, e := sdl.Types(s)
		if e != api.OK {
			t.Fatalf("%q: %d at %d", s, e, at)
		}
		again(t, &maker{Rand: rand.New(rand.NewSource(9))}, l, print.Types(l), sdl.Types)
	}
}
