package schema_test

import (
	"fmt"
	"testing"

	"columbary/api"
	"columbary/schema"
)

const whole = `interface I { i: Int } type B implements J & I { i: Int j: [A] } union U = Q | A
type Query implements All { q(id: ID!): Q all: [I!]! u(id: ID!): U } enum E { V W }
type A implements I { e: E! i: Int u: [U!]! } input N { n: Int = 3 m: [E!]! } interface J { j: [A] } type Q { i: [[Int]!] }
interface Lonely { l: Int } interface All { all: [I!]! } type Mutation { createA(id: ID!, input: O!): A deleteB(id: ID!): B } input O { i: Int }`

// same does not tell nil from empty.
func same(a, b any) bool { return fmt.Sprintf("%+v", a) == fmt.Sprintf("%+v", b) }

func named(name string) api.TypeRef { return api.TypeRef{Name: name} }

func must(name string) api.TypeRef { return api.TypeRef{Name: name, Bang: true} }

func list(t api.TypeRef) api.TypeRef { return api.TypeRef{Of: []api.TypeRef{t}} }

func mustList(t api.TypeRef) api.TypeRef { return api.TypeRef{Of: []api.TypeRef{t}, Bang: true} }

// Words: the scalars.
func TestScalars(t *testing.T) {
	if schema.Scalars != [4]string{"Boolean", "ID", "Int", "String"} {
		t.Error(schema.Scalars)
	}
}

// Words: the base.
func TestBase(t *testing.T) {
	for _, x := range []api.TypeRef{named("A"), must("A"), list(named("A")), mustList(must("A")), list(mustList(list(must("A")))), {Name: "B", Of: []api.TypeRef{named("A")}}, {Name: "A", Of: []api.TypeRef{}}, {Of: []api.TypeRef{named("A"), named("B")}}} {
		if b := schema.Base(x); b != "A" {
			t.Errorf("Base(%+v) = %q", x, b)
		}
	}
	if schema.Base(api.TypeRef{}) != "" || schema.Base(list(named(""))) != "" {
		t.Error("Base of a type without a name")
	}
}

// P9.3: SameType compares names, lists and !.
func TestSameType(t *testing.T) {
	beside := func(x api.TypeRef) api.TypeRef { x.Name = "A"; return x }
	l := []api.TypeRef{{}, named("A"), must("A"), named("B"), must(""), list(named("")), list(named("A")), list(must("A")), mustList(named("A")), mustList(must("A")), list(named("B")), mustList(must("B")), beside(list(named("A"))), beside(mustList(must("A")))}
	for _, x := range l[5:] {
		l = append(l, list(x), mustList(x), beside(list(x)), list(list(x)), list(mustList(x)))
	}
	for i, x := range l {
		for j, y := range l {
			if schema.SameType(x, y) != (i == j) {
				t.Errorf("SameType(%+v, %+v) = %t", x, y, i != j)
			}
		}
	}
	if a, b := (api.TypeRef{Name: "A", Of: []api.TypeRef{}}), (api.TypeRef{Of: []api.TypeRef{named("A"), named("B")}}); !schema.SameType(a, named("A")) || !schema.SameType(b, list(named("A"))) {
		t.Error("SameType of types that differ in what has no meaning")
	}
}

// P9.1: Verb.
func TestVerb(t *testing.T) {
	for name, want := range map[string][2]string{
		"createA": {"create", "A"}, "updateA": {"update", "A"}, "deleteA": {"delete", "A"}, "create": {"create", ""}, "update": {"update", ""}, "delete": {"delete", ""}, "created": {"create", "d"}, "createcreateA": {"create", "createA"}, "deleteupdate": {"delete", "update"}, "create_": {"create", "_"},
		"": {}, "a": {}, "creat": {}, "creatA": {}, "CreateA": {}, "xcreateA": {}, " createA": {}, "_deleteA": {}, "removeA": {}, "A": {}, "delet": {}, "upDateA": {},
	} {
		if verb, n := schema.Verb(name); [2]string{verb, n} != want {
			t.Errorf("Verb(%q) = %q, %q", name, verb, n)
		}
	}
}

// P9.2: Types and Type.
func TestTypes(t *testing.T) {
	s, l := built(t, whole), types(t, whole)
	if !same(s.Types(), l) {
		t.Errorf("%+v; want %+v", s.Types(), l)
	}
	for _, x := range l {
		if y, ok := s.Type(x.Name); !ok || !same(x, y) {
			t.Errorf("Type(%q) = %+v, %t", x.Name, y, ok)
		}
	}
	for _, n := range []string{"", "None", "Int", "ID", "String", "Boolean", "a", "__typename", "i"} {
		if y, ok := s.Type(n); ok || !same(y, api.TypeDef{}) {
			t.Errorf("Type(%q) = %+v, %t", n, y, ok)
		}
	}
}

// P9.2, and Words: what a type is. A letter stands for each that is true.
func TestIs(t *testing.T) {
	for text, all := range map[string]map[string]string{
		whole: {"Boolean": "SL", "ID": "SL", "Int": "SL", "String": "SL", "E": "EL", "N": "I", "O": "I", "A": "C", "B": "C", "Q": "C", "I": "C", "J": "C", "Lonely": "C", "U": "C", "Query": "", "Mutation": "", "": "", "None": "", "int": "", "V": "", "i": "", "__typename": "", "IntID": "", "In": ""},
		rest:  {"Mutation": "", "E": "", "Int": "SL"}, more + mutations[2]: {"Mutation": ""}, more + mutations[3]: {"Mutation": "EL"}, more + mutations[4]: {"Mutation": "I"},
	} {
		s := built(t, text)
		for n, want := range all {
			got := ""
			for i, is := range []bool{s.Scalar(n), s.Enum(n), s.Input(n), s.Leaf(n), s.Composite(n)} {
				if is {
					got += "SEILC"[i : i+1]
				}
			}
			if got != want {
				t.Errorf("%q: %s; want %s", n, got, want)
			}
		}
	}
}

// P9.2: Possible.
func TestPossible(t *testing.T) {
	s := built(t, whole)
	for n, want := range map[string][]string{"A": {"A"}, "B": {"B"}, "Q": {"Q"}, "Query": {"Query"}, "Mutation": {"Mutation"}, "I": {"B", "A"}, "J": {"B"}, "Lonely": nil, "All": {"Query"}, "U": {"Q", "A"}, "E": nil, "N": nil, "Int": nil, "None": nil, "": nil, "i": nil} {
		if got := s.Possible(n); !same(got, want) {
			t.Errorf("Possible(%q) = %v; want %v", n, got, want)
		}
	}
	for i, want := range [][]string{{"Mutation"}, nil, {"Q"}, nil, nil} {
		if i == 1 {
			continue
		}
		if got := built(t, more+mutations[i]).Possible("Mutation"); !same(got, want) {
			t.Errorf("Possible of%s = %v", mutations[i], got)
		}
	}
	if got := built(t, rest).Possible("Mutation"); len(got) != 0 {
		t.Error("Possible of no Mutation:", got)
	}
}

// P9.2: Field.
func TestField(t *testing.T) {
	s := built(t, whole)
	for _, x := range types(t, whole) {
		for _, f := range x.Fields {
			g, ok := s.Field(x.Name, f.Name)
			if input := x.Kind == api.TInput; ok == input || input && !same(g, api.FieldDef{}) || !input && !same(g, f) {
				t.Errorf("Field(%q, %q) = %+v, %t", x.Name, f.Name, g, ok)
			}
		}
	}
	for n, l := range map[string][]string{"A": {"", "j", "I", "_typename", "id", "createA"}, "I": {"e", "u"}, "U": {"i", "Q", "A"}, "E": {"V", "W"}, "Q": {"j"}, "None": {"i"}, "Int": {"i"}, "": {"", "i"}, "Query": {"i"}, "i": {"I"}} {
		for _, f := range l {
			if g, ok := s.Field(n, f); ok || !same(g, api.FieldDef{}) {
				t.Errorf("Field(%q, %q) = %+v, %t", n, f, g, ok)
			}
		}
	}
}

// P9.2: Field of __typename.
func TestTypename(t *testing.T) {
	has := func(s *schema.Schema, n string, want bool) {
		t.Helper()
		var w api.FieldDef
		if want {
			w = api.FieldDef{Name: "__typename", T: must("String")}
		}
		if f, ok := s.Field(n, "__typename"); ok != want || !same(f, w) {
			t.Errorf("Field(%q, __typename) = %+v, %t", n, f, ok)
		}
	}
	s := built(t, whole)
	for _, n := range []string{"A", "B", "Q", "I", "J", "Lonely", "All", "U", "Query", "Mutation"} {
		has(s, n, true)
	}
	for _, n := range []string{"E", "N", "O", "Int", "String", "ID", "Boolean", "None", "", "__typename"} {
		has(s, n, false)
	}
	has(built(t, rest), "Mutation", false)
	for _, i := range []int{0, 2, 3, 4} {
		has(built(t, more+mutations[i]), "Mutation", true)
	}
}

// P9.3, and DOC.md: without a schema nothing exists.
func TestNilSchema(t *testing.T) {
	var s *schema.Schema
	for _, n := range []string{"", "Int", "String", "Boolean", "ID", "Query", "Mutation", "A"} {
		x, ok := s.Type(n)
		if ok || !same(x, api.TypeDef{}) || s.Scalar(n) || s.Enum(n) || s.Input(n) || s.Leaf(n) || s.Composite(n) || len(s.Possible(n)) != 0 {
			t.Errorf("%q exists", n)
		}
		for _, f := range []string{"", "a", "__typename"} {
			if x, ok := s.Field(n, f); ok || !same(x, api.FieldDef{}) {
				t.Errorf("%q has the field %q", n, f)
			}
		}
	}
	if len(s.Types()) != 0 {
		t.Error(s.Types())
	}
}
