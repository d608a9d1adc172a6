package parse_test

import (
	"math"
	"testing"

	"columbary/api"
	"columbary/lex"
	"columbary/parse"
)

func tokens(t *testing.T, s string) []lex.Token {
	t.Helper()
	l, at, e := lex.Tokens(s)
	if e != api.OK {
		t.Fatalf("Tokens(%q): %d at %d", s, e, at)
	}
	return l
}

// isType reads the type that begins at the token i of a text.
func isType(t *testing.T, s string, i int, want api.TypeRef, next int, e api.Errno) {
	t.Helper()
	if x, n, f := parse.Type(tokens(t, s), i); !same(x, want) || n != next || f != e {
		t.Errorf("Type(%q, %d) = %+v, %d, %d; want %+v, %d, %d", s, i, x, n, f, want, next, e)
	}
}

func isValue(t *testing.T, s string, i int, fixed bool, want api.Value, next int, e api.Errno) {
	t.Helper()
	if x, n, f := parse.Value(tokens(t, s), i, fixed); !same(x, want) || n != next || f != e {
		t.Errorf("Value(%q, %d, %v) = %+v, %d, %d; want %+v, %d, %d", s, i, fixed, x, n, f, want, next, e)
	}
}

func noType(t *testing.T, s string, i, at int, e api.Errno) {
	t.Helper()
	isType(t, s, i, api.TypeRef{}, at, e)
}

func noValue(t *testing.T, s string, i int, fixed bool, at int, e api.Errno) {
	t.Helper()
	isValue(t, s, i, fixed, api.Value{}, at, e)
}

// P6.2: a type, and the index after it.
func TestType(t *testing.T) {
	b := named("B")
	list := func(t api.TypeRef, bang bool) api.TypeRef { return api.TypeRef{Of: []api.TypeRef{t}, Bang: bang} }
	isType(t, "B", 0, b, 1, api.OK)
	isType(t, "B !", 0, api.TypeRef{Name: "B", Bang: true}, 2, api.OK)
	isType(t, "1 ( [B!] ! 5", 2, list(api.TypeRef{Name: "B", Bang: true}, true), 7, api.OK)
	isType(t, "[[B]!]", 0, list(list(b, true), false), 6, api.OK)
	isType(t, "[[B]!]", 1, list(b, true), 5, api.OK)
	isType(t, "[[B]!]", 2, b, 3, api.OK)
	isType(t, "true]!", 0, named("true"), 1, api.OK)
	isType(t, "B!!", 0, api.TypeRef{Name: "B", Bang: true}, 2, api.OK)
	isType(t, "B C", 0, b, 1, api.OK)
	isType(t, "B[C]", 1, list(named("C"), false), 4, api.OK)
}

// P6.2: faults of a type, with the index of the token at fault.
func TestTypeFaults(t *testing.T) {
	for _, s := range []string{"", "]", "!", "1", "...", `"B"`, "{B}", "$B", ":", "!B"} {
		noType(t, s, 0, 0, api.ErrText)
		noType(t, "B ["+s, 2, 2, api.ErrText)
		noType(t, "B ["+s, 1, 2, api.ErrText)
	}
	noType(t, "[B", 0, 2, api.ErrText)
	noType(t, "[B!", 0, 3, api.ErrText)
	noType(t, "[B C]", 0, 2, api.ErrText)
	noType(t, "[B!!]", 0, 3, api.ErrText)
}

// P6.2: a value, and the index after it.
func TestValue(t *testing.T) {
	for _, fixed := range []bool{false, true} {
		for s, v := range values() {
			n := len(tokens(t, s)) - 1
			isValue(t, s, 0, fixed, v, n, api.OK)
			isValue(t, "[ "+s+" ] 1", 1, fixed, v, n+1, api.OK)
			isValue(t, "$ "+s+" $a", 1, fixed, v, n+1, api.OK)
		}
	}
	for s, v := range variables() {
		n := len(tokens(t, s)) - 1
		isValue(t, s, 0, false, v, n, api.OK)
		isValue(t, "} "+s+"!", 1, false, v, n+1, api.OK)
		at := 0
		for tokens(t, s)[at].Text != "$" {
			at++
		}
		noValue(t, s, 0, true, at, api.ErrText)
		noValue(t, "[ "+s+" ]", 0, true, at+1, api.ErrText)
	}
	isValue(t, "$a", 1, true, enum("a"), 2, api.OK)
	isValue(t, "1 2", 0, false, num(1), 1, api.OK)
	isValue(t, "1:2", 2, true, num(2), 3, api.OK)
}

// P6.2: faults of a value, with the index of the token at fault.
func TestValueFaults(t *testing.T) {
	for _, fixed := range []bool{false, true} {
		for _, s := range []string{"", "]", "}", ")", "!", "...", ":", "=", "@", "|", "&", "(1)"} {
			noValue(t, s, 0, fixed, 0, api.ErrText)
			noValue(t, "E "+s, 1, fixed, 1, api.ErrText)
			noValue(t, "{a:"+s, 0, fixed, 3, api.ErrText)
			if s != "]" {
				noValue(t, "1["+s, 1, fixed, 2, api.ErrText)
			}
		}
		noValue(t, "{a", 0, fixed, 2, api.ErrText)
		noValue(t, "{a 1}", 0, fixed, 2, api.ErrText)
		noValue(t, "{a:1", 0, fixed, 4, api.ErrText)
		noValue(t, "{a:1]", 0, fixed, 4, api.ErrText)
		noValue(t, "{1:1}", 0, fixed, 1, api.ErrText)
		noValue(t, "[1}", 0, fixed, 2, api.ErrText)
		noValue(t, "[[1]", 0, fixed, 4, api.ErrText)
	}
	noValue(t, "$", 0, false, 1, api.ErrText)
	noValue(t, "$1", 0, false, 1, api.ErrText)
	noValue(t, "[$]", 0, false, 2, api.ErrText)
	noValue(t, "$", 0, true, 0, api.ErrText)
}

// P6.2: nothing is open around a type or a value.
func TestDeepTokens(t *testing.T) {
	b := named("B")
	v := num(1)
	o := num(1)
	for range nest - 1 {
		b = api.TypeRef{Of: []api.TypeRef{b}}
		v = list(v)
		o = object([]string{"a"}, o)
	}
	n := nest - 1
	isType(t, many("[", n)+"B"+many("]", n), 0, b, 2*n+1, api.OK)
	isType(t, many("[", n+5)+"B"+many("]", n+5), 5, b, 2*n+6, api.OK)
	for _, s := range []string{"B", "[B]", "]", "", "1"} {
		noType(t, many("[", nest)+s, 0, nest, api.ErrDeep)
		noType(t, many("[", nest+2)+s, 1, nest+1, api.ErrDeep)
	}
	for _, fixed := range []bool{false, true} {
		isValue(t, many("[", n)+"1"+many("]", n), 0, fixed, v, 2*n+1, api.OK)
		isValue(t, many("[", n+3)+"1"+many("]", n+3), 3, fixed, v, 2*n+4, api.OK)
		isValue(t, many("{a:", n)+"1"+many("}", n), 0, fixed, o, 4*n+1, api.OK)
		for _, s := range []string{"1", "[1]", "{}", "", "!", "$a"} {
			noValue(t, many("[", nest)+s, 0, fixed, nest, api.ErrDeep)
			noValue(t, "1"+many("{a:", nest)+s, 1, fixed, 3*nest+1, api.ErrDeep)
		}
		noValue(t, many("[", nest)+many("]", nest-1), 0, fixed, 2*nest-1, api.ErrText)
	}
}

// P6.2: ErrArg where there is no token.
func TestNoToken(t *testing.T) {
	l := tokens(t, "[1]")
	for _, i := range []int{-1, 4, 5, 100, -100, math.MinInt, math.MaxInt} {
		if x, n, e := parse.Type(l, i); !same(x, api.TypeRef{}) || n != 0 || e != api.ErrArg {
			t.Errorf("Type of no token %d: %v, %d, %d", i, x, n, e)
		}
		for _, fixed := range []bool{false, true} {
			if x, n, e := parse.Value(l, i, fixed); !same(x, api.Value{}) || n != 0 || e != api.ErrArg {
				t.Errorf("Value of no token %d: %v, %d, %d", i, x, n, e)
			}
		}
	}
	for _, i := range []int{-1, 0, 1} {
		_, n, e := parse.Type(nil, i)
		_, m, f := parse.Value([]lex.Token{}, i, true)
		if n != 0 || m != 0 || e != api.ErrArg || f != api.ErrArg {
			t.Errorf("no tokens, %d: %d, %d, %d, %d", i, n, e, m, f)
		}
	}
	isValue(t, "[1]", 3, false, api.Value{}, 3, api.ErrText) // the End is a token
	noType(t, "B", 1, 1, api.ErrText)
}

// P1: also tokens without an End, or of no kind, are read without a panic.
func TestOddTokens(t *testing.T) {
	for _, s := range []string{"[[B!]!]!", "{a:[1,{b:$c}]d:null}", "$a", "[$a", "{a:", many("[", 30)} {
		l := tokens(t, s)
		for n := range l {
			for i := range n {
				parse.Type(l[:n:n], i)
				parse.Value(l[:n:n], i, false)
				parse.Value(l[:n:n], i, true)
			}
		}
	}
	odd := []lex.Token{{}, {Kind: 99, Text: "["}, {Kind: lex.Sign, Text: "?"}, {Kind: lex.Sign}, {Kind: lex.Name}, {Kind: 255, N: -1, At: -1}, {Kind: lex.Sign, Text: "["}, {}}
	for i := range odd {
		parse.Type(odd, i)
		parse.Value(odd, i, false)
	}
}

// Tokens are not changed, and results are new memory.
func TestNewMemory(t *testing.T) {
	l := tokens(t, "{a:[1,2]b:[]}")
	v, _, _ := parse.Value(l, 0, true)
	w, _, _ := parse.Value(l, 0, true)
	v.K[0], v.L[0].L[0], v.L[1] = "x", num(7), null()
	_ = append(v.K[:1], "y", "y", "y")
	_ = append(v.L[0].L[:1], num(8), num(8), num(8))
	if want := object([]string{"a", "b"}, list(num(1), num(2)), list()); !same(w, want) {
		t.Errorf("changed through another result: %+v", w)
	}
	if !same(l, tokens(t, "{a:[1,2]b:[]}")) {
		t.Errorf("changed tokens: %+v", l)
	}
	c, _, _ := parse.Document("{a{b}}")
	d, _, _ := parse.Document("{a{b}}")
	c.Ops[0].Sub[0].Sub[0].Name = "x"
	if want := ops(query(field("a", field("b")))); !same(d, want) {
		t.Errorf("changed through another document: %+v", d)
	}
}
