package schema_test

import (
	"math"
	"strings"
	"testing"

	"columbary/api"
	"columbary/lex"
	"columbary/parse"
	"columbary/print"
	"columbary/schema"
)

const fitting = `enum E { V W } interface I { i: Int } union U = A type A { i: Int } type Query { a(id: ID!): A }
input N { i: Int e: [E!] b: Boolean! n: String! = "x" d: ID = null } input M { i: Int } input K { k: [[Int!]]! }`

func num(n int64) api.Value { return api.Value{Kind: api.VInt, N: n} }

func value(kind byte, s string) api.Value { return api.Value{Kind: kind, S: s} }

func values(l ...api.Value) api.Value { return api.Value{Kind: api.VList, L: l} }

func object(k []string, l ...api.Value) api.Value {
	return api.Value{Kind: api.VObject, K: k, L: l}
}

func typeOf(t *testing.T, s string) api.TypeRef {
	t.Helper()
	l, _, _ := lex.Tokens(s)
	x, i, e := parse.Type(l, 0)
	if e != api.OK || i != len(l)-1 {
		t.Fatalf("no type: %s", s)
	}
	return x
}

func valueOf(t *testing.T, s string) api.Value {
	t.Helper()
	l, _, _ := lex.Tokens(s)
	x, i, e := parse.Value(l, 0, false)
	if e != api.OK || i != len(l)-1 {
		t.Fatalf("no value: %s", s)
	}
	return x
}

// holds has the values that fit, and behind a / those that don't.
func holds(t *testing.T, s *schema.Schema, typ string, all string) {
	t.Helper()
	good, bad, _ := strings.Cut(all, "/")
	for want, l := range map[bool]string{true: good, false: bad} {
		for _, v := range strings.Split(l, ";") {
			if strings.TrimSpace(v) != "" && s.Fits(typeOf(t, typ), valueOf(t, v)) != want {
				t.Errorf("%s for %s: %t", v, typ, !want)
			}
		}
	}
}

// P9.3: scalars.
func TestFitsScalars(t *testing.T) {
	s := built(t, fitting)
	const others = "; []; {}; [null]; [1]; V; E; $v; [true]; [V]; {a: 1}"
	holds(t, s, "Int", "0; 1; -1; 2147483647; -2147483648; null / 2147483648; -2147483649; 4294967296; 4294967297; -4294967296; 999999999999999999; \"1\"; true; false"+others)
	holds(t, s, "String", `""; "a"; "1"; null / 1; 0; true`+others)
	holds(t, s, "Boolean", `true; false; null / 0; 1; "true"`+others)
	holds(t, s, "ID", `""; "a"; 1; 0; -1; 2147483648; -999999999999999999; null / true; false`+others)
	for _, n := range schema.Scalars {
		holds(t, s, n+"!", "/ null"+others)
	}
	for _, n := range []int64{math.MaxInt64, math.MinInt64} {
		if s.Fits(named("Int"), num(n)) || !s.Fits(named("ID"), num(n)) {
			t.Error(n)
		}
	}
}

// P9.3: enums.
func TestFitsEnums(t *testing.T) {
	s := built(t, fitting)
	holds(t, s, "E", `V; W; null / X; v; E; "V"; 0; 1; true; $V; []; [V]; {}; {V: 1}; {V: V}`)
	holds(t, s, "E!", "V; W / null; X")
}

// P9.3: inputs.
func TestFitsInputs(t *testing.T) {
	s := built(t, fitting)
	holds(t, s, "N", `null; {b: true}; {b: false, i: 3}; {i: 3, b: false}; {b: true, i: null, e: null, d: null}; {b: true, e: V}; {b: true, e: [V, W, V]}; {b: true, n: "y"}; {b: true, d: 5}; {i: 1, e: [], b: true, n: "", d: "q"}
		/ {}; {i: 3}; {b: null}; {b: 1}; {b: true, i: "x"}; {b: true, e: X}; {b: true, e: [V, null]}; {b: true, e: [[V]]}; {b: true, n: null}; {b: true, n: 1}; {b: true, d: V}; {b: true, x: 1}; {b: true, x: null}; {b: true, B: true}; {b: true, b: true}; {b: true, i: 1, i: 1}; {b: true, i: $v}; {x: 1}; [{b: true}]; []; 1; "b"; true; b; $v`)
	holds(t, s, "N!", "{b: true} / null; {}")
	holds(t, s, "M", "{}; {i: 1}; {i: null}; null / {j: 1}; {i: V}; []; [1]; 1; {i: {i: 1}}")
	holds(t, s, "K", "{k: []}; {k: 1}; {k: [1]}; {k: [[1, 2], 3, null, []]} / {}; {k: null}; {k: [[null]]}; {k: [[[1]]]}; {k: V}")
	for i, want := range []bool{true, false, false} { // a name, and no name, twice
		v := object([]string{"b", "i", "i"}[:1+i], []api.Value{{Kind: api.VBool, N: 1}, {Kind: api.VEnum, S: "V"}, {}}[:1+i]...)
		if s.Fits(named("N"), v) != want {
			t.Error(print.Value(v))
		}
	}
}

// P9.3: lists.
func TestFitsLists(t *testing.T) {
	s := built(t, fitting)
	holds(t, s, "[Int]", `[]; [1]; [1, null, 2]; 1; null; [null] / [[1]]; [[]]; "a"; ["a"]; [1, "a", 2]; [1, 2, V]; {}; $v; [$v]; 2147483648; [1, 2147483648]`)
	holds(t, s, "[Int!]", "[]; [1]; 1; null / [null]; [1, null]; [null, 1]")
	holds(t, s, "[Int]!", "[]; [null]; 1 / null; V")
	holds(t, s, "[Int!]!", "[]; [1, 2]; 1 / null; [null]; [1, null]")
	holds(t, s, "[[Int]]", "[]; [[]]; [[1], [2, null], null, []]; [1]; 1; [1, [2], null]; null / [[[1]]]; [[1], [[2]]]; V; [V]; [[V]]; [[1], V]; [[1], [V]]")
	holds(t, s, "[[Int!]]!", "[]; [null]; [[1], 2] / null; [[null]]; [[1], [1, null]]")
	holds(t, s, "[[Int]!]", "null; [[null]]; 1; [1, [null]] / [null]; [[1], null]")
	holds(t, s, "[E]", `V; [V, W, null] / "V"; [X]; [V, "W"]; {V: 1}`)
	holds(t, s, "[M!]", "{i: 1}; {}; [{}, {i: 2}]; null; [] / [null]; [{j: 1}]; {j: 1}; [[{}]]; 1")
	holds(t, s, "[[[[ID]]]]", `1; "a"; [[[[1, "a", null]], 1]] / [[[[[1]]]]]; V`)
}

// P9.3: nothing but null is valid for any other type, nor for any without a schema.
func TestFitsOthers(t *testing.T) {
	const all = `0; 1; "a"; true; V; {}; {i: 1}; $v`
	s := built(t, fitting)
	for _, n := range []string{"A", "I", "U", "Query", "Mutation", "None", "int", "V", "__typename", "i"} {
		holds(t, s, n, "null / []; [null]; [1]; "+all)
		holds(t, s, n+"!", "/ null; []; [null]; [1]; "+all)
		holds(t, s, "["+n+"]", "null; []; [null, null] / [1]; [null, V]; [[]]; "+all)
	}
	for _, n := range []string{"Int", "ID", "Boolean", "String", "E", "N", "A"} {
		holds(t, nil, n, "null / []; [null]; "+all)
		holds(t, nil, n+"!", "/ null; []; "+all)
		holds(t, nil, "["+n+"]", "null; []; [null, null] / [1]; [[]]; "+all)
		holds(t, nil, "["+n+"!]!", "[] / null; [null]; [1]; "+all)
	}
	holds(t, built(t, rest+mutations[4]), "Mutation", "{}; {i: 1}; null / {j: 1}; 1")
	holds(t, built(t, rest+mutations[3]), "Mutation", "V; null / W; 1")
}

// P9.3: values that no text has.
func TestFitsKinds(t *testing.T) {
	s := built(t, fitting)
	for k := range 256 {
		v := api.Value{Kind: byte(k), S: "V", N: 1}
		if v.Kind == api.VObject {
			v.K, v.L = []string{"i"}, []api.Value{{}}
		}
		for n, fit := range map[string][]byte{"Int": {api.VInt}, "String": {api.VText}, "Boolean": {api.VBool}, "ID": {api.VInt, api.VText}, "E": {api.VEnum}, "M": {api.VObject}, "A": nil, "": nil} {
			want := v.Kind == api.VNull || strings.Contains(string(fit), string([]byte{v.Kind}))
			if got := s.Fits(named(n), v); got != want {
				t.Errorf("%+v for %q: %t", v, n, got)
			}
			if got := s.Fits(must(n), v); got != (want && k > 0) {
				t.Errorf("%+v for %q!: %t", v, n, got)
			}
			if got := s.Fits(list(must(n)), v); got != (want || v.Kind == api.VList) {
				t.Errorf("%+v for [%q!]: %t", v, n, got)
			}
		}
	}
}
