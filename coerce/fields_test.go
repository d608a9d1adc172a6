package coerce_test

import (
	"testing"

	"columbary/api"
	"columbary/coerce"
	"columbary/parse"
	"columbary/sdl"
)

// defaults is what N has without anything given.
const defaults = `i: 7, s: "x", d: "3", l: [["5"]], n: null, f: W`

// P10.2: the names, one by one, before any value.
func TestNames(t *testing.T) {
	both(t, built(t, whole), `
		M | {i: 1, i: 1}; {i: 1, i: "a"}; {i: V, i: 1}; {i: null, i: null, j: 1} | ErrTwice
		M | {j: 1}; {j: 1, j: 1}; {i: 1, j: 1, i: 1}; {i: "a", j: 1}; {I: 1}; {ii: 1}; {j: null}; {__typename: 1} | ErrNone
		R | {b: 1, b: 1}; {a: 1, a: 1}; {b: 1, a: "a", b: 2} | ErrTwice
		R | {b: 1, c: 1}; {c: 1}; {a: null, c: 1} | ErrNone
		N | {n: 1, i: 1, n: 2}; {n: 1, i: 1, i: 2, n: 2, q: 3} | ErrTwice
		N | {n: 1, i: 1, q: 3, n: 2}; {N: 1} | ErrNone`)
	literals(t, built(t, whole), `{i: 1}`, `
		M | {i: $x, i: $x}; {i: $i, i: $x} | ErrTwice
		M | {j: $x}; {j: $i}; {i: $x, j: 1} | ErrNone`)
}

// P10.2: the values, in the order of the declarations.
func TestOrder(t *testing.T) {
	both(t, built(t, whole), `
		N | {} | {`+defaults+`}
		N | {b: true, f: V, n: 1, l: 2, d: 4, e: [V, W], s: "y", i: 0} | {i: 0, s: "y", e: [V, W], d: "4", l: [["2"]], n: 1, f: V, b: true}
		N | {b: false} | {`+defaults+`, b: false}
		N | {n: null, b: null, i: null, e: null, d: null, l: null} | {i: null, s: "x", e: null, d: null, l: null, n: null, f: W, b: null}
		N | {s: null}; {f: null, i: 1}; {b: 1, s: null, i: 1} | ErrNull
		N | {i: "a"}; {s: null, i: "a"}; {l: "a", b: 1}; {b: null, n: V} | ErrType
		R | {b: V, a: 1}; {a: 1, b: [V]} | {a: 1, b: [V]}
		R | {}; {a: 1}; {b: V}; {b: 1}; {a: null, b: 1}; {a: 1, b: null}; {a: 1, b: [null]}; {b: [X]} | ErrNull
		R | {a: "a"}; {b: null, a: "a"}; {a: 1, b: X}; {a: true, b: [null]}; {a: 1, b: [X, null]} | ErrType
		M | {} | {}
		M! | {i: null} | {i: null}
		M | []; [{}]; 1; true; V; "i"; "{}" | ErrType`)
}

// P10.2: a variable without a value is as nothing; one that is null is not.
func TestVariableFields(t *testing.T) {
	literals(t, built(t, whole), `{v: 1, n: null, o: {a: 2}, l: [1]}`, `
		N | {i: $x, s: $x, e: $x, d: $x, l: $x, n: $x, f: $x, b: $x} | {`+defaults+`}
		N | {i: $n, e: $n, d: $n, l: $n, n: $n, b: $n} | {i: null, s: "x", e: null, d: null, l: null, n: null, f: W, b: null}
		N | {b: $v, d: $v, l: [[$v, 2], $l, $x]} | {i: 7, s: "x", d: 1, l: [[1, "2"], [1], null], n: null, f: W, b: 1}
		N | {e: [$x]}; {e: [V, $n]}; {s: $n}; {f: $n, b: 1} | ErrNull
		R | {a: $v, b: $l} | {a: 1, b: [1]}
		R | {a: $x, b: V}; {a: 1, b: $x}; {a: $n, b: 1}; {a: $x, b: 1}; {b: $l} | ErrNull
		R | {a: $v, b: [$v, $v, V]} | {a: 1, b: [1, 1, V]}
		R | {a: $o, b: $v} | {a: {a: 2}, b: 1}
		[M] | [{i: $x}, {i: $v}, $o, $x] | [{}, {i: 1}, {a: 2}, null]
		M | {i: $x} | {}
		M | {i: [$v]} | ErrType`)
}

// argsOf reads declarations, as those of a field, and arguments for it.
func argsOf(t *testing.T, declared, given string) (api.FieldDef, []api.Arg) {
	t.Helper()
	f := api.FieldDef{Name: "f"}
	if declared != "" {
		l, at, e := sdl.Types("type A { f(" + declared + "): Int }")
		if e != api.OK {
			t.Fatalf("%s: %d at %d", declared, e, at)
		}
		f = l[0].Fields[0]
	}
	if given == "" {
		return f, nil
	}
	d, at, e := parse.Document("{ f(" + given + ") }")
	if e != api.OK {
		t.Fatalf("%s: %d at %d", given, e, at)
	}
	return f, d.Ops[0].Sub[0].Args
}

// args has lines of declarations, arguments and the outcome.
func args(t *testing.T, vars, table string) {
	t.Helper()
	s := built(t, whole)
	each(t, table, func(c []string) {
		f, l := argsOf(t, c[0], c[1])
		v, name, e := coerce.Args(s, f, l, valueOf(t, vars))
		expect(t, c, outcome{v: v, none: e != api.OK, name: name, e: e})
	})
}

// P10.3: Args.
func TestArgs(t *testing.T) {
	args(t, `{v: 1, n: null, m: {j: 1}}`, `
		| | {}
		| a: 1 | ErrNone a
		a: Int | | {}
		a: Int | a: 1 | {a: 1}
		a: Int | a: null | {a: null}
		a: Int! | | ErrNull a
		a: Int! | a: null | ErrNull a
		a: Int | a: "a" | ErrType a
		a: Int b: ID! c: E | c: V b: 7 | {b: "7", c: V}
		a: Int b: ID! c: E | c: V b: 7 a: 0 | {a: 0, b: "7", c: V}
		a: Int b: ID! c: E | b: 7 c: "V" | ErrType c
		a: Int b: ID! c: E | c: X a: 0 | ErrNull b
		a: Int b: ID! c: E | c: X a: V | ErrType a
		a: Int b: ID! c: E | a: V c: 1 c: 2 | ErrTwice c
		a: Int b: ID! c: E | c: 1 d: 2 c: 2 | ErrNone d
		a: Int b: ID! c: E | d: 1 d: 2 | ErrNone d
		a: Int b: ID! c: E | c: 1 b: 1 b: 1 c: 1 | ErrTwice b
		a: Int b: ID! c: E | B: 1 | ErrNone B
		a: Int = 5 b: [ID!]! = 6 | | {a: 5, b: ["6"]}
		a: Int = 5 b: [ID!]! = 6 | b: "x" a: null | {a: null, b: ["x"]}
		a: Int = 5 b: [ID!]! = 6 | b: null | ErrNull b
		a: Int = 5 b: [ID!]! = 6 | b: [null] a: "a" | ErrType a
		a: Int = 5 b: [ID!]! = 6 | a: $x b: $x | {a: 5, b: ["6"]}
		a: Int = 5 b: [ID!]! = 6 | a: $n b: $v | {a: null, b: 1}
		a: Int = 5 b: [ID!]! = 6 | b: $n | ErrNull b
		a: Int = 5 b: [ID!]! = 6 | b: [$v, 2] | {a: 5, b: [1, "2"]}
		a: Int = 5 b: [ID!]! = 6 | b: [$x] | ErrNull b
		a: Int b: Int! | a: $x b: $v | {b: 1}
		a: Int b: Int! | b: $x | ErrNull b
		input: N! | input: {} | {input: {`+defaults+`}}
		input: N! | input: $m | {input: {j: 1}}
		input: N! | | ErrNull input
		input: N! id: ID! | input: {q: 1} | ErrNone input
		input: N! id: ID! | id: 1 input: {i: 1, i: 1} | ErrTwice input
		input: N! id: ID! | input: {s: null} | ErrNull input
		input: N! id: ID! | input: {i: [$v]} id: 1 | ErrType input
		input: [R!] | input: {a: $v, b: [$v]} | {input: [{a: 1, b: [1]}]}
		input: [R!] | input: [{a: 1, b: V}, {b: V}] | ErrNull input
		a: None b: None! | b: $v | {b: 1}
		a: None b: None! | b: 1 | ErrType b
		a: None | | {}`)
}

// P10.2: defaults of any form.
func TestDefaults(t *testing.T) {
	args(t, `{v: 1}`, `
		a: Int = "a" | | ErrType a
		a: Int = "a" | a: 1 | {a: 1}
		a: Int = "a" | a: $x | ErrType a
		a: Int! = null | | ErrNull a
		a: Int = null | | {a: null}
		a: E = "V" | | ErrType a
		a: None = 1 | | ErrType a
		a: [[E]!] = V | | {a: [[V]]}
		a: N = {} | | {a: {`+defaults+`}}
		a: [N!] = {b: true} b: R! = {a: 1, b: V} | | {a: [{`+defaults+`, b: true}], b: {a: 1, b: [V]}}
		a: N = {q: 1} | | ErrNone a
		a: N = {i: 1, i: 1} | | ErrTwice a
		a: R = {a: 1} | | ErrNull a
		b: Int = V a: Int! | | ErrType b
		b: Int! a: Int = V | | ErrNull b`)
	s := built(t, whole)
	for _, given := range [][]api.Arg{nil, {{Name: "a", V: valueOf(t, "$x")}}} { // no text has variables in a default
		each(t, `
			Int | $v | {}
			Int! | $v | ErrNull a
			[Int] | $x | {}
			[Int!]! | $v | ErrNull a
			[Int] | [$v, 2] | {a: [null, 2]}
			[Int!] | [$v, 2] | ErrNull a
			[[Int]] | [[$v], $v] | {a: [[null], null]}
			M | {i: $v} | {a: {}}
			R | {a: $v, b: V} | ErrNull a
			N | {i: $v, l: [$v, 1], s: $v, b: true} | {a: {i: 7, s: "x", d: "3", l: [null, ["1"]], n: null, f: W, b: true}}`, func(c []string) {
			f := api.FieldDef{Args: []api.FieldDef{{Name: "a", T: typeOf(t, c[0]), Has: true, V: valueOf(t, c[1])}}}
			v, name, e := coerce.Args(s, f, given, valueOf(t, "{v: 1}"))
			expect(t, c, outcome{v: v, none: e != api.OK, name: name, e: e})
		})
	}
	f := api.FieldDef{Args: []api.FieldDef{{Name: "a", T: typeOf(t, "Int"), V: valueOf(t, "5")}}} // a V, but not Has
	if v, name, e := coerce.Args(s, f, nil, api.Value{}); !same(v, api.Value{Kind: api.VObject}) || name != "" || e != api.OK {
		t.Errorf("%+v, %q, %d", v, name, e)
	}
}

// varsOf reads the variables of an operation.
func varsOf(t *testing.T, declared string) []api.VarDef {
	t.Helper()
	if declared == "" {
		return nil
	}
	d, at, e := parse.Document("query (" + declared + ") { f }")
	if e != api.OK {
		t.Fatalf("%s: %d at %d", declared, e, at)
	}
	return d.Ops[0].Vars
}

// P10.3: Vars.
func TestVars(t *testing.T) {
	s := built(t, whole)
	each(t, `
		| {} | {}
		| {a: 1} | {}
		| null | {}
		$a: Int | {} | {}
		$a: Int | null | {}
		$a: Int | [1] | {}
		$a: Int | "a" | {}
		$a: Int | {a: 1, b: "x", c: $a} | {a: 1}
		$a: Int | {A: 1} | {}
		$a: Int | {a: null} | {a: null}
		$a: Int | {a: 1, a: 2} | {a: 1}
		$a: Int | {a: 1, a: V} | {a: 1}
		$a: Int | {b: 3, a: V, a: 1} | ErrType a
		$a: Int! | {} | ErrNull a
		$a: Int! | null | ErrNull a
		$a: Int! | {b: 1} | ErrNull a
		$a: Int! | {a: null} | ErrNull a
		$a: Int! | {a: null, a: 1} | ErrNull a
		$a: Int | {a: $a} | ErrType a
		$a: [Int] | {a: [1, $a]} | ErrType a
		$b: ID! $a: [E!] | {a: "V", b: 7} | {b: "7", a: [V]}
		$b: ID! $a: [E!] | {a: [V, "W"], b: "x", c: 1} | {b: "x", a: [V, W]}
		$b: ID! $a: [E!] | {b: 7} | {b: "7"}
		$b: ID! $a: [E!] | {a: [V, "X"]} | ErrNull b
		$b: ID! $a: [E!] | {a: [V, "X"], b: true} | ErrType b
		$b: ID! $a: [E!] | {a: [V, "X"], b: 1} | ErrType a
		$b: ID! $a: [E!] | {a: [V, null], b: 1} | ErrNull a
		$a: Int = 5 $b: [ID!]! = 6 | {} | {a: 5, b: ["6"]}
		$a: Int = 5 $b: [ID!]! = 6 | {a: null} | {a: null, b: ["6"]}
		$a: Int = 5 $b: [ID!]! = 6 | {b: [], a: 0} | {a: 0, b: []}
		$a: Int = 5 $b: [ID!]! = 6 | {b: null} | ErrNull b
		$a: Int = 5 $b: [ID!]! = 6 | {a: "5"} | ErrType a
		$a: Int! = null | {} | ErrNull a
		$a: Int! = null | {a: 1} | {a: 1}
		$a: Int = null | {} | {a: null}
		$a: Int = "a" | {} | ErrType a
		$a: E = V | {} | {a: V}
		$a: E = "V" | {} | ErrType a
		$a: E = "V" | {a: "W"} | {a: W}
		$a: N | {a: {f: "V", e: "V"}} | {a: {i: 7, s: "x", e: [V], d: "3", l: [["5"]], n: null, f: V}}
		$a: N = {e: V} | {} | {a: {i: 7, s: "x", e: [V], d: "3", l: [["5"]], n: null, f: W}}
		$a: N = {e: "V"} | {} | ErrType a
		$a: N | {a: {q: 1}} | ErrNone a
		$a: N | {a: {i: 1, i: 1}} | ErrTwice a
		$a: N | {a: {i: $a}} | ErrType a
		$a: N = {q: 1} | {} | ErrNone a
		$a: [R!] | {a: [{a: 1, b: "V"}, {b: V}]} | ErrNull a
		$a: A | {} | {}
		$a: A | {a: null} | {a: null}
		$a: A | {a: {i: 1}} | ErrType a
		$a: None! | {a: 1} | ErrType a
		$a: None! | {} | ErrNull a
		$a: Int $a: ID | {a: 1} | {a: 1, a: "1"}`, func(c []string) {
		v, name, e := coerce.Vars(s, varsOf(t, c[0]), valueOf(t, c[1]))
		expect(t, c, outcome{v: v, none: e != api.OK, name: name, e: e})
	})
}

// P10.3: a variable's default that is itself a variable, or has some in it, which no text has.
func TestVariableDefaults(t *testing.T) {
	s := built(t, whole)
	each(t, `
		Int | $a | {} | {}
		Int! | $a | {} | {}
		[Int!]! | $b | {b: 1} | {}
		None! | $a | {} | {}
		Int! | $a | {a: 1} | {a: 1}
		Int! | $a | {a: null} | ErrNull a
		Int! | $b | {a: $b} | ErrType a
		[Int] | [$b, 1] | {b: 1} | {a: [null, 1]}
		[Int!] | [$b, 1] | {b: 1} | ErrNull a
		M! | {i: $b} | {b: 1} | {a: {}}
		N! | {i: $b, b: true} | {b: 1} | {a: {`+defaults+`, b: true}}
		R | {a: $b, b: V} | {b: 1} | ErrNull a`, func(c []string) {
		l := []api.VarDef{{Name: "a", T: typeOf(t, c[0]), Has: true, V: valueOf(t, c[1])}}
		v, name, e := coerce.Vars(s, l, valueOf(t, c[2]))
		expect(t, c, outcome{v: v, none: e != api.OK, name: name, e: e})
	})
	for _, typ := range []string{"Int", "Int!"} { // a variable, but not Has
		want := map[string]string{"Int": "{}", "Int!": "ErrNull a"}[typ]
		l := []api.VarDef{{Name: "a", T: typeOf(t, typ), V: valueOf(t, "$a")}}
		v, name, e := coerce.Vars(s, l, api.Value{})
		expect(t, []string{typ, want}, outcome{v: v, none: e != api.OK, name: name, e: e})
	}
}
