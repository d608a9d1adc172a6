package schema_test

import (
	"slices"
	"testing"

	"columbary/api"
	"columbary/schema"
)

// spoil changes all that a caller may change in types.
func spoil(l []api.TypeDef) {
	for i := range l {
		spoilFields(l[i].Fields)
		spoilNames(l[i].Names)
		l[i] = api.TypeDef{Kind: api.TEnum, Name: "spoilt"}
	}
	spare := l[len(l):cap(l)]
	for i := range spare {
		spare[i] = api.TypeDef{Name: "spoilt"}
	}
}

func spoilNames(l []string) {
	l = l[:cap(l)]
	for i := range l {
		l[i] = "spoilt"
	}
}

func spoilFields(l []api.FieldDef) {
	for i := range l {
		spoilFields(l[i].Args)
		spoilType(l[i].T)
	}
	l = l[:cap(l)]
	for i := range l {
		l[i] = api.FieldDef{Name: "spoilt", T: named("spoilt")}
	}
}

func spoilType(t api.TypeRef) {
	for _, x := range t.Of {
		spoilType(x)
	}
	l := t.Of[:cap(t.Of)]
	for i := range l {
		l[i] = named("spoilt")
	}
}

const remembered = "type A implements I & J { i: [[Int]!] j: [A] } interface I { i: [[Int]!] } interface J { j: [A] } union U = A | B type B { u: U } enum E { V W } input N { e: [E!] = [V, W] } type Query { a(id: ID!): A b: [U!]! } type Mutation { createA(id: ID!, input: M!): A } input M { i: [[Int!]]! = [[1]] }"

// DOC.md: an argument is not retained.
func TestArgumentsAreNotKept(t *testing.T) {
	l, want := types(t, remembered), types(t, remembered)
	s, _, _ := schema.Build(l)
	spoil(l)
	checkRemembered(t, s, want)
}

// DOC.md: the slices in a result are new memory.
func TestResultsAreNew(t *testing.T) {
	want := types(t, remembered)
	s := built(t, remembered)
	for range 2 {
		spoil(s.Types())
		for _, x := range want {
			y, _ := s.Type(x.Name)
			spoil([]api.TypeDef{y})
			spoilNames(s.Possible(x.Name))
			for _, f := range x.Fields {
				g, _ := s.Field(x.Name, f.Name)
				spoilFields([]api.FieldDef{g})
			}
		}
		checkRemembered(t, s, want)
	}
}

func checkRemembered(t *testing.T, s *schema.Schema, want []api.TypeDef) {
	t.Helper()
	if !same(s.Types(), want) {
		t.Errorf("%+v; want %+v", s.Types(), want)
	}
	for _, x := range want {
		if y, ok := s.Type(x.Name); !ok || !same(x, y) || !same(s.Possible(x.Name), plain(want).possible(x.Name)) {
			t.Errorf("%+v; want %+v", y, x)
		}
		for _, f := range x.Fields {
			if g, _ := s.Field(x.Name, f.Name); x.Kind != api.TInput && !same(g, f) {
				t.Errorf("%+v; want %+v", g, f)
			}
		}
	}
	if !s.Fits(typeOf(t, "E"), value(api.VEnum, "W")) || s.Fits(typeOf(t, "E"), value(api.VEnum, "spoilt")) {
		t.Error("not what was declared")
	}
}

// DOC.md: an argument is not modified, nor its spare capacity.
func TestArgumentsAreNotModified(t *testing.T) {
	for _, s := range []string{remembered, whole, remembered + " type __Z { i: Int }", remembered + " type Z { i: Int i: Int }", remembered + " type Z { i(a: N = 1): Int }", "type A { b: Int }"} {
		l := roomy(types(t, s))
		schema.Build(l)
		if want := roomy(types(t, s)); !same(wide(l), wide(want)) {
			t.Errorf("%+v; want %+v", wide(l), wide(want))
		}
	}
}

// roomy gives each list some capacity that it does not use.
func roomy(l []api.TypeDef) []api.TypeDef {
	for i := range l {
		l[i].Names = slices.Grow(l[i].Names, 3)
		l[i].Fields = slices.Grow(l[i].Fields, 3)
		for j := range l[i].Fields {
			l[i].Fields[j].Args = slices.Grow(l[i].Fields[j].Args, 3)
			l[i].Fields[j].T.Of = slices.Grow(l[i].Fields[j].T.Of, 3)
		}
	}
	return slices.Grow(l, 3)
}

// wide shows the capacity, too.
func wide(l []api.TypeDef) []any {
	out := []any{l, l[len(l) : len(l)+3]}
	for _, x := range l {
		out = append(out, x.Names[:len(x.Names)+3], x.Fields[:len(x.Fields)+3])
		for _, f := range x.Fields {
			out = append(out, f.Args[:len(f.Args)+3], f.T.Of[:len(f.T.Of)+3])
		}
	}
	return out
}

// No two lists of a result are one, nor is the capacity of an argument in it.
func TestListsApart(t *testing.T) {
	names, room := []string{"V", "W"}, make([]api.TypeRef, 0, 1)
	fields := []api.FieldDef{{Name: "i", T: api.TypeRef{Name: "Int", Of: room}}}
	l := append(types(t, rest), api.TypeDef{Kind: api.TEnum, Name: "A", Names: names}, api.TypeDef{Kind: api.TEnum, Name: "B", Names: names}, api.TypeDef{Kind: api.TObject, Name: "C", Fields: fields}, api.TypeDef{Kind: api.TObject, Name: "D", Fields: fields})
	s, name, e := schema.Build(l)
	if e != api.OK {
		t.Fatal(name, e)
	}
	got := s.Types()
	n := len(got)
	got[n-4].Names[0] = "x"
	got[n-2].Fields[0].Name = "x"
	if got[n-3].Names[0] != "V" || got[n-1].Fields[0].Name != "i" {
		t.Errorf("%+v", got)
	}
	for _, f := range []api.FieldDef{got[n-2].Fields[0], got[n-1].Fields[0]} {
		if cap(f.T.Of) > 0 {
			_ = append(f.T.Of, named("x"))
		}
	}
	if room[:1][0].Name != "" {
		t.Error("the capacity of an argument was given away")
	}
}
