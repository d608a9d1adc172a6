package coerce_test

import (
	"fmt"
	"slices"
	"strings"
	"testing"

	"columbary/api"
	"columbary/coerce"
	"columbary/lex"
	"columbary/parse"
	"columbary/schema"
	"columbary/sdl"
)

const whole = `enum E { V W } interface I { i: Int } union U = A type A implements I { i: Int } type Query { a(id: ID!): A }
input M { i: Int } input R { a: Int! b: [E!]! } input Mutation { x: [[ID!]] }
input N { i: Int = 7 s: String! = "x" e: [E!] d: ID = 3 l: [[ID]] = 5 n: Int = null f: E! = W b: Boolean }`

func built(t *testing.T, text string) *schema.Schema {
	t.Helper()
	l, _, _ := sdl.Types(text)
	s, name, e := schema.Build(l)
	if e != api.OK {
		t.Fatalf("Build(%s): %d at %s", text, e, name)
	}
	return s
}

func typeOf(t *testing.T, text string) api.TypeRef {
	t.Helper()
	l, _, _ := lex.Tokens(text)
	x, i, e := parse.Type(l, 0)
	if e != api.OK || i != len(l)-1 {
		t.Fatalf("no type: %s", text)
	}
	return x
}

func valueOf(t *testing.T, text string) api.Value {
	t.Helper()
	l, _, _ := lex.Tokens(text)
	x, i, e := parse.Value(l, 0, false)
	if e != api.OK || i != len(l)-1 {
		t.Fatalf("no value: %s", text)
	}
	return x
}

func same(a, b any) bool { return fmt.Sprintf("%+v", a) == fmt.Sprintf("%+v", b) }

// outcome is what a call returned; none stands for false.
type outcome struct {
	v    api.Value
	none bool
	name string
	e    api.Errno
}

// wanted reads an outcome: a value, none, or an error and the name at fault.
func wanted(t *testing.T, text string) outcome {
	t.Helper()
	name, fault, _ := strings.Cut(text, " ")
	e := slices.Index([]string{"OK", "ErrArg", "ErrLong", "ErrForm", "ErrText", "ErrDeep", "ErrNone", "ErrTwice", "ErrType", "ErrNull"}, name)
	switch {
	case e > 0:
		return outcome{name: fault, e: api.Errno(e), none: true}
	case text == "none":
		return outcome{none: true}
	}
	return outcome{v: valueOf(t, text)}
}

// each calls for each line of a table; its cells are separated by |.
func each(t *testing.T, table string, check func(cells []string)) {
	t.Helper()
	for _, line := range strings.Split(strings.TrimSpace(table), "\n") {
		cells := strings.Split(line, "|")
		for i := range cells {
			cells[i] = strings.TrimSpace(cells[i])
		}
		check(cells)
	}
}

func expect(t *testing.T, cells []string, got outcome) {
	t.Helper()
	if want := wanted(t, cells[len(cells)-1]); !same(got, want) {
		t.Errorf("%q: %+v; want %+v", cells, got, want)
	}
}

// literals has lines of a type, values separated by ; and the outcome for each of them.
func literals(t *testing.T, s *schema.Schema, vars, table string) {
	t.Helper()
	each(t, table, func(c []string) {
		for _, text := range strings.Split(c[1], ";") {
			v, ok, e := coerce.Literal(s, typeOf(t, c[0]), valueOf(t, text), valueOf(t, vars))
			expect(t, []string{c[0], text, c[2]}, outcome{v: v, none: !ok, e: e})
		}
	})
}

func inputs(t *testing.T, s *schema.Schema, table string) {
	t.Helper()
	each(t, table, func(c []string) {
		for _, text := range strings.Split(c[1], ";") {
			v, e := coerce.Input(s, typeOf(t, c[0]), valueOf(t, text))
			expect(t, []string{c[0], text, c[2]}, outcome{v: v, none: e != api.OK, e: e})
		}
	})
}

// both is for values for which it makes no difference who gives them.
func both(t *testing.T, s *schema.Schema, table string) {
	t.Helper()
	literals(t, s, "{v: 1}", table)
	inputs(t, s, table)
}

// The chapter's examples.
func TestExamples(t *testing.T) {
	both(t, built(t, whole), `
		[Int] | 3 | [3]
		ID | 7 | "7"`)
}

// P10.1: Get.
func TestGet(t *testing.T) {
	each(t, `
		{a: 1} | a | 1
		{a: 1, b: "x", c: [1]} | b | "x"
		{a: 1, b: "x", c: [1]} | c | [1]
		{a: 1, a: 2, b: 3, a: 4} | a | 1
		{b: 3, a: null, a: 2} | a | null
		{a: $x} | a | $x
		{a: 1} | b | none
		{a: 1} | A | none
		{a: 1} | aa | none
		{aa: 1} | a | none
		{a: {b: 1}} | b | none
		{} | a | none
		{a: 1} | | none
		[1] | a | none
		a | a | none
		"a" | a | none
		$a | a | none
		1 | a | none
		null | a | none`, func(c []string) {
		v, ok := coerce.Get(valueOf(t, c[0]), c[1])
		expect(t, c, outcome{v: v, none: !ok})
	})
	v := api.Value{Kind: api.VObject, K: []string{"a", "", "b"}, L: []api.Value{{}, {Kind: api.VInt, N: 5}, {}}}
	if x, ok := coerce.Get(v, ""); !ok || x.N != 5 {
		t.Errorf("a field without a name: %+v, %t", x, ok)
	}
	for k := range 256 {
		v.Kind = byte(k)
		if _, ok := coerce.Get(v, "a"); ok != (v.Kind == api.VObject) {
			t.Errorf("kind %d: %t", k, ok)
		}
	}
}

// P10.1: the scalars.
func TestScalars(t *testing.T) {
	const long = "999999999999999999"
	both(t, built(t, whole), `
		Int | 0; -0 | 0
		Int | 2147483647 | 2147483647
		Int | -2147483648 | -2147483648
		Int! | -1 | -1
		Int | 2147483648; -2147483649; 4294967296; 4294967297; -4294967296; `+long+` | ErrType
		Int! | 2147483648; "1" | ErrType
		Int | "1"; ""; true; V; []; [1]; {}; {i: 1} | ErrType
		String | "" | ""
		String! | "a \"" | "a \""
		String | 0; true; V; []; ["a"]; {}; {i: "a"} | ErrType
		Boolean | true | true
		Boolean! | false | false
		Boolean | 0; 1; "true"; V; []; [true]; {} | ErrType
		ID | "" | ""
		ID! | "a" | "a"
		ID | "07" | "07"
		ID | 0 | "0"
		ID! | 7 | "7"
		ID | -12 | "-12"
		ID | 2147483648 | "2147483648"
		ID | -`+long+` | "-`+long+`"
		ID | true; V; []; ["a"]; [1]; {} | ErrType`)
}

// P10.1: the enums. Only a client may give their values as texts.
func TestEnums(t *testing.T) {
	s := built(t, whole)
	both(t, s, `
		E | V | V
		E! | W | W
		E | X; v; E; VW; 0; true; []; [V]; {}; {V: V}; "X"; "v"; ""; "E"; "V " | ErrType
		E! | X; "X" | ErrType
		[E] | V | [V]
		[E!]! | [V, W, V] | [V, W, V]
		[E] | [V, X]; [V, "X"] | ErrType`)
	literals(t, s, "{}", `
		E | "V"; "W" | ErrType
		E! | "V" | ErrType
		[E] | "V"; ["V"]; [V, "W"] | ErrType`)
	inputs(t, s, `
		E | "V" | V
		E! | "W" | W
		[E] | "V" | [V]
		[[E!]!]! | ["V", [W, "W"]] | [[V], [W, W]]
		Int | "V" | ErrType
		String | "V" | "V"
		ID | "V" | "V"
		N | "V" | ErrType`)
	inputs(t, built(t, "enum E { V } type A { i: Int } type Query { a(id: ID!): A } enum F { W V } input V { i: Int }"), `
		F | "W" | W
		F | "X"; "F"; "i" | ErrType
		E | "W" | ErrType
		E | "V" | V
		V | "V"; "i" | ErrType
		A | "V" | ErrType`)
}

// P10.1: null.
func TestNull(t *testing.T) {
	for _, name := range []string{"Int", "String", "Boolean", "ID", "E", "M", "N", "R", "A", "I", "U", "Query", "Mutation", "None", "[Int]", "[Int!]", "[[R!]!]", "[None]"} {
		both(t, built(t, whole), name+" | null | null\n"+name+"! | null | ErrNull")
		literals(t, nil, "{}", name+" | null | null\n"+name+"! | null | ErrNull")
		inputs(t, nil, name+" | null | null\n"+name+"! | null | ErrNull")
	}
}

// P10.1: lists.
func TestLists(t *testing.T) {
	both(t, built(t, whole), `
		[Int] | [] | []
		[Int!]! | [] | []
		[Int]! | 3 | [3]
		[Int!] | 3 | [3]
		[Int] | [3]; 3 | [3]
		[Int] | [1, null, 2] | [1, null, 2]
		[Int!] | [1, null, 2]; [null] | ErrNull
		[Int]! | [null] | [null]
		[Int] | "a"; ["a"]; [1, "a", 2]; [[1]]; [[]]; {}; 2147483648; [1, 2147483648] | ErrType
		[Int!]! | "a"; [[1]]; true | ErrType
		[ID] | 7 | ["7"]
		[ID] | [7, "7", 0, null] | ["7", "7", "0", null]
		[[Int]] | 3; [3]; [[3]] | [[3]]
		[[Int]] | [1, [2, 3], [], null] | [[1], [2, 3], [], null]
		[[Int]!] | [1, null] | ErrNull
		[[Int!]] | [1, null] | [[1], null]
		[[Int!]] | [1, [null]] | ErrNull
		[[Int]] | [[[1]]]; [1, [[2]]]; [1, V]; V | ErrType
		[[[ID]]] | 1 | [[["1"]]]
		[[[ID]]] | [1, [2, [3, null], []], [[[]]]] | ErrType
		[[[ID]]] | [1, [2, [3, null], []]] | [[["1"]], [["2"], ["3", null], []]]
		[M] | {i: 1} | [{i: 1}]
		[M!] | [{i: 1}, {}, {i: null}] | [{i: 1}, {}, {i: null}]
		[M!] | [{i: 1}, null] | ErrNull
		[[M]] | [{i: 1}, [{i: 2}, null]] | [[{i: 1}], [{i: 2}, null]]
		[M] | [[{}]]; [1]; 1 | ErrType
		[M] | [{j: 1}]; {j: 1} | ErrNone`)
}

// P10.1: of a list, the first element's error.
func TestFirstElement(t *testing.T) {
	both(t, built(t, whole), `
		[Int!] | ["a", null] | ErrType
		[Int!] | [null, "a"] | ErrNull
		[Int!] | [1, 2, null, "a", null] | ErrNull
		[[Int!]] | [1, [2, "a"], [null]] | ErrType
		[[Int!]] | [1, [2, null], "a"] | ErrNull
		[[Int!]] | [[1, []], [null]] | ErrType
		[[Int!]!] | [null, ["a"]] | ErrNull
		[M!] | [{}, {i: 1, i: 2}, {j: 1}] | ErrTwice
		[M!] | [{j: 1}, {i: 1, i: 2}, null] | ErrNone
		[M!] | [null, {j: 1}] | ErrNull
		[M!] | [{i: V}, {j: 1}] | ErrType`)
}

// P10.1: everything else.
func TestOtherTypes(t *testing.T) {
	const all = `0; "a"; ""; true; V; {}; {i: 1}`
	s := built(t, whole)
	for _, name := range []string{"A", "I", "U", "Query", "None", "int", "V", "__typename", "i"} {
		both(t, s, name+"|"+all+"; []; [null]; [1] | ErrType\n"+name+"! |"+all+"; [] | ErrType\n["+name+"] |"+all+"; [1] | ErrType\n["+name+"] | [null] | [null]\n["+name+"!]! | [] | []\n["+name+"!]! | [null] | ErrNull")
	}
	for _, name := range []string{"Int", "String", "Boolean", "ID", "E", "M", "A", "None"} {
		table := name + "! |" + all + "; [1] | ErrType\n[" + name + "] | [null] | [null]\n[" + name + "] |" + all + "| ErrType"
		literals(t, nil, "{}", table)
		inputs(t, nil, table)
	}
	both(t, s, `
		Mutation | {x: 1} | {x: [["1"]]}
		Mutation! | {x: [1, ["a"]]} | {x: [["1"], ["a"]]}
		Mutation | {y: 1} | ErrNone
		Mutation | 1; [] | ErrType`)
}

// P10.1: variables, of whatever type.
func TestVariables(t *testing.T) {
	s := built(t, whole)
	const vars = `{n: null, i: 1, t: "a", e: V, l: [1, null], o: {x: 1, x: 2}, i: 2, w: $i, big: 2147483648}`
	for _, typ := range []string{"Int", "ID!", "E", "M!", "A", "None!", "[Int]", "[[E!]!]!", "[None]!", "Mutation"} {
		literals(t, s, vars, strings.ReplaceAll(`
			% | $i | 1
			% | $t | "a"
			% | $e | V
			% | $l | [1, null]
			% | $o | {x: 1, x: 2}
			% | $w | $i
			% | $big | 2147483648
			% | $x; $I; $ii; $v | none`, "%", typ))
		want := map[bool]string{true: "ErrNull", false: "null"}[strings.HasSuffix(typ, "!")]
		literals(t, s, vars, typ+"| $n | "+want)
		literals(t, nil, vars, typ+"| $n | "+want+"\n"+typ+"| $i | 1\n"+typ+"| $x | none")
	}
	for _, other := range []string{"null", "{}", "[1]", "x", `"x"`, "$x", "1"} {
		literals(t, s, other, "Int | $x | none\nInt! | $x | none\n[Int] | [$x, 1] | [null, 1]\n[Int!] | [$x, 1] | ErrNull")
	}
}

// P10.1: elements that are variables.
func TestVariableElements(t *testing.T) {
	literals(t, built(t, whole), `{n: null, i: 1, t: "a", l: [1, "b"]}`, `
		[Int] | [$i, 2, $i] | [1, 2, 1]
		[Int] | [$x, 2, $n] | [null, 2, null]
		[Int] | [$t, $l] | ["a", [1, "b"]]
		[Int!] | [$i, $x]; [$i, $n] | ErrNull
		[Int!] | [$i, "a", $x] | ErrType
		[Int!]! | [$i, $t] | [1, "a"]
		[Int]! | [$x] | [null]
		[[Int]] | [$l, [$i, $x], $x, 3] | [[1, "b"], [1, null], null, [3]]
		[[Int]!] | [[$i], $x] | ErrNull
		[[Int]!] | [[$x], $i] | [[null], 1]
		[[Int!]] | [$x, $n, [$i]] | [null, null, [1]]
		[[Int!]] | [$x, [$x]] | ErrNull
		[ID] | [$i, 1, $t] | [1, "1", "a"]
		[None] | [$i, $x] | [1, null]
		[None!] | [$i, $x] | ErrNull`)
}

// P10.1: for a client there are no variables.
func TestClientsVariables(t *testing.T) {
	s := built(t, whole)
	for _, typ := range []string{"Int", "ID!", "E", "M!", "A", "None!", "[Int]", "[[E!]!]!", "Mutation"} {
		inputs(t, s, typ+" | $x; $V; $i | ErrType")
	}
	inputs(t, s, `
		[Int] | [$x]; [1, $x] | ErrType
		[Int!] | [$x]; [$x, null] | ErrType
		[Int!] | [null, $x] | ErrNull
		M | {i: $x} | ErrType
		N | {i: $x}; {b: $x}; {s: $x} | ErrType
		M | {j: $x} | ErrNone`)
}

// P10.1: kinds of values that no text has.
func TestKinds(t *testing.T) {
	s := built(t, whole)
	for k := range 256 {
		v := api.Value{Kind: byte(k), S: "V", N: 1}
		for name, kinds := range map[string][]byte{"Int": {api.VInt}, "String": {api.VText}, "Boolean": {api.VBool}, "ID": {api.VInt, api.VText}, "E": {api.VEnum}, "M": {api.VObject}, "A": nil, "": nil} {
			fits := slices.Contains(append(kinds, api.VNull), v.Kind)
			if x, e := coerce.Input(s, api.TypeRef{Name: name}, v); (e == api.OK) != (fits || name == "E" && v.Kind == api.VText) {
				t.Errorf("Input of %+v for %q: %+v, %d", v, name, x, e)
			}
			if x, ok, e := coerce.Literal(s, api.TypeRef{Name: name}, v, api.Value{}); ok != fits || (e == api.OK) != (fits || v.Kind == api.VVar) {
				t.Errorf("Literal of %+v for %q: %+v, %t, %d", v, name, x, ok, e)
			}
		}
	}
}
