package schema_test

import (
	"runtime/debug"
	"testing"

	"columbary/api"
	"columbary/schema"
)

// P9.1, 1, for types that no text declares: the names of fields, and the other names, are together but for an object.
func TestBothNames(t *testing.T) {
	for _, kind := range []byte{api.TInterface, api.TUnion, api.TEnum, api.TInput} {
		x := api.TypeDef{Kind: kind, Name: "A", Fields: []api.FieldDef{{Name: "i", T: named("Int")}}, Names: []string{"i"}}
		if s, name, e := schema.Build(append(types(t, rest), x)); s != nil || name != "i" || e != api.ErrTwice {
			t.Errorf("%+v: %q, %d", x, name, e)
		}
	}
}

// P9.1: a verb is needed, whatever the types are named.
func TestNoVerb(t *testing.T) {
	id := api.FieldDef{Name: "id", T: must("ID")}
	input := api.FieldDef{Name: "input", T: must("N")}
	empty := api.TypeDef{Kind: api.TObject, Fields: []api.FieldDef{{Name: "i", T: named("Int")}}}
	for name, want := range map[string]api.Errno{"make": api.ErrForm, "create": api.OK} {
		m := api.TypeDef{Kind: api.TObject, Name: "Mutation", Fields: []api.FieldDef{{Name: name, Args: []api.FieldDef{id, input}}}}
		if _, _, e := schema.Build(append(types(t, rest+" input N { i: Int }"), empty, m)); e != want {
			t.Errorf("%s: %d", name, e)
		}
	}
}

// P1: types of all kinds, with anything in them.
func TestOdd(t *testing.T) {
	fields := []api.FieldDef{{}, {Name: "a", T: named("A"), Has: true, V: object([]string{"a", "b"}, num(1)), Args: []api.FieldDef{{}, {Name: "b", T: list(named("")), Args: []api.FieldDef{{}}}}}}
	for k := range 256 {
		x := api.TypeDef{Kind: byte(k), Name: "A", Fields: fields[:1], Names: []string{"A", "", "Query"}}
		schema.Build([]api.TypeDef{x})
		x.Fields = fields
		schema.Build([]api.TypeDef{x, {}, {Name: "Query"}})
		for _, y := range []api.TypeDef{{Kind: byte(k), Name: "A"}, {Kind: byte(k), Name: ""}, {Kind: byte(k), Name: "A", Names: []string{"Q"}}, {Kind: byte(k), Name: "Mutation"}, {Kind: byte(k), Name: "Query"}} {
			s, _, _ := schema.Build(append(types(t, rest), y))
			s.Types()
			for _, n := range []string{"A", "", "Mutation", "Query"} {
				s.Type(n)
				s.Leaf(n)
				s.Composite(n)
				s.Possible(n)
				s.Field(n, "a")
				s.Field(n, "__typename")
				s.Fits(named(n), object([]string{"a", "b"}, num(1)))
				s.Fits(named(n), object(nil, num(1)))
			}
		}
	}
	if schema.Base(api.TypeRef{}) != "" || !schema.SameType(api.TypeRef{}, api.TypeRef{}) {
		t.Error("types without names")
	}
}

// P1: types, values and arguments may be nested deeper than calls can be.
func TestDeep(t *testing.T) {
	defer debug.SetMaxStack(debug.SetMaxStack(1 << 18))
	const n = 100000
	typ, short, v, single := named("Int"), named("ID"), num(1), num(1)
	inner := api.FieldDef{Name: "a", T: named("Int")}
	for range n {
		typ, short, v = list(typ), list(short), values(v)
		inner = api.FieldDef{Name: "a", T: named("Int"), Args: []api.FieldDef{inner}}
	}
	if schema.Base(typ) != "Int" || !schema.SameType(typ, typ) || schema.SameType(typ, short) || schema.SameType(typ, list(typ)) {
		t.Error("types")
	}
	s := built(t, rest)
	if !s.Fits(typ, v) || !s.Fits(typ, single) || s.Fits(typ, values(v)) || s.Fits(typ, value(api.VText, "")) || !s.Fits(short, v) {
		t.Error("Fits")
	}
	field := api.FieldDef{Name: "a", T: typ, Has: true, V: v}
	l := append(types(t, rest), api.TypeDef{Kind: api.TInput, Name: "N", Fields: []api.FieldDef{field}})
	s, name, e := schema.Build(l)
	if s == nil || e != api.OK || !s.Fits(named("N"), object([]string{"a"}, v)) {
		t.Fatal(name, e)
	}
	if x, _ := s.Type("N"); !schema.SameType(x.Fields[0].T, typ) {
		t.Error("Type")
	}
	l = append(types(t, rest), api.TypeDef{Kind: api.TObject, Name: "A", Fields: []api.FieldDef{inner}})
	if _, name, e := schema.Build(l); name != "a" || e != api.ErrForm {
		t.Error(name, e)
	}
}
