package schema_test

import (
	"math/rand"
	"regexp"
	"slices"
	"strings"
	"testing"

	"columbary/api"
	"columbary/lex"
	"columbary/schema"
	"columbary/sdl"
)

// tokens are the texts of a text's tokens.
func tokens(s string) []string {
	l, _, _ := lex.Tokens(s)
	var out []string
	for i := range len(l) - 1 {
		out = append(out, strings.TrimSpace(strings.Trim(s[l[i].At:l[i+1].At], ", \n")))
	}
	return out
}

// seeds are valid; what a random change makes of them is not far from that.
var seeds = []string{whole, fitting, rest, more + mutations[0], more + mutations[2], more + mutations[3], more + mutations[4],
	"type A implements I & J { i: Int j: [A!] k: ID } interface I { i: Int } interface J { j: [A!] i: Int } type Query { a(id: ID!): A b: [A!]! c(id: ID!): I }",
	"type Mutation { createA(id: ID!, input: N!): A updateA(id: ID!, input: N!): A deleteA(id: ID!): A } type A { i: Int j: [A!] e: E } input N { i: Int! = 5 j: [ID]! e: E = V } enum E { V W } type Query { a: [A!]! }",
	"union Mutation = A union U = A | B type A { i: Int a: A } type B { u: U! m: [U] } type Query { a: [U!]! b(id: ID!): U }",
	"interface I { a(i: Int! = 1 e: [E!] = [V] n: [N]): Int } enum E { V } input N { i: Int } type Query { i: [I!]! }",
}

var keywords = []string{"type", "interface", "union", "enum", "input", "implements"}

// pool is what no seed has, or what makes a difference in it.
var pool = []string{"Query", "Mutation", "__a", "__b", "id", "ID", "Int", "input", "String", "Boolean", "createA", "deleteA", "updateA", "A", "I", "N", "E", "U", "i", "None",
	"!", "= 1", "= V", "= [V 1]", "= null", "i : Int", "[ Int ]", "( id : ID ! )", "( i : Int )", "implements I", "| A", "& I", "enum E { V }", "union Z = A", "input Mutation { i: Int }"}

const poolNames = 20

func isName(s string) bool {
	return regexp.MustCompile(`^\w+$`).MatchString(s) && !slices.Contains(keywords, s)
}

// changed has a few tokens that were replaced, left out, put in, or exchanged; most often, names by names.
func changed(r *rand.Rand, l []string) []string {
	l = slices.Clone(l)
	for range 1 + r.Intn(4) {
		i, j, k := r.Intn(len(l)), r.Intn(len(l)), r.Intn(len(pool))
		switch n := r.Intn(16); {
		case n < 7:
			if isName(l[i]) && isName(l[j]) {
				l[i] = l[j]
			}
		case n < 10:
			if isName(l[i]) {
				l[i] = pool[k%poolNames]
			}
		case n < 11:
			l[i] = pool[k]
		case n < 13:
			l = slices.Insert(l, i, pool[k])
		case n < 15:
			l = slices.Delete(l, i, i+1)
		default:
			l[i], l[j] = l[j], l[i]
		}
	}
	return l
}

func shuffled(r *rand.Rand, l []api.TypeDef) []api.TypeDef {
	if r.Intn(2) == 0 {
		r.Shuffle(len(l), func(i, j int) { l[i], l[j] = l[j], l[i] })
	}
	return l
}

// P9.1 to P9.3, held against the plain schema, for types that are nearly valid.
func TestRandom(t *testing.T) {
	r := rand.New(rand.NewSource(1))
	seen := map[api.Errno]int{}
	var all [][]string
	for _, s := range seeds {
		all = append(all, tokens(s))
	}
	for range 80000 {
		s := strings.Join(changed(r, all[r.Intn(len(all))]), " ")
		l, _, e := sdl.Types(s)
		if e != api.OK {
			continue
		}
		l = shuffled(r, l)
		want := plain(l).build()
		x, name, e := schema.Build(l)
		if (x != nil) != (e == api.OK) || name != want.name || e != want.e {
			t.Fatalf("Build(%s) = %v, %q, %d; want %q, %d", s, x != nil, name, e, want.name, want.e)
		}
		seen[e]++
		if e == api.OK && seen[e]%20 == 0 {
			lookups(t, r, x, plain(l))
		}
	}
	for _, e := range []api.Errno{api.OK, api.ErrArg, api.ErrForm, api.ErrNone, api.ErrTwice, api.ErrType} {
		if seen[e] < 500 {
			t.Errorf("only %d with the error %d", seen[e], e)
		}
	}
}

// lookups asks a schema for all names that it may know, and a few values.
func lookups(t *testing.T, r *rand.Rand, s *schema.Schema, p plain) {
	names := []string{"Int", "ID", "Boolean", "String", "Query", "Mutation", "A", "E", "None", ""}
	fields := []string{"i", "a", "V", "__typename", "id", ""}
	for _, x := range p {
		names = append(names, x.Name)
		fields = append(append(fields, namesOf(x.Fields)...), x.Names...)
	}
	if !same(s.Types(), []api.TypeDef(p)) {
		t.Fatalf("%+v: %+v", p, s.Types())
	}
	for _, n := range names {
		k := p.kind(n)
		x, ok := s.Type(n)
		if ok != (k != 0) || ok && !same(x, *p.find(n)) || s.Scalar(n) != isScalar(n) || s.Enum(n) != (k == api.TEnum) || s.Input(n) != (k == api.TInput) || s.Leaf(n) != (isScalar(n) || k == api.TEnum) || s.Composite(n) != p.composite(n) || !same(s.Possible(n), p.possible(n)) {
			t.Fatalf("%q in %+v", n, p)
		}
		for _, f := range fields {
			g, ok := s.Field(n, f)
			h, has := p.field(n, f)
			if ok != has || !same(g, h) {
				t.Fatalf("Field(%q, %q) of %+v: %+v, %t", n, f, p, g, ok)
			}
		}
	}
	for range 30 {
		typ, v := randomType(r, names, 0), randomValue(r, fields, 0)
		if s.Fits(typ, v) != p.fits(typ, v) {
			t.Fatalf("Fits(%+v, %+v) of %+v", typ, v, p)
		}
	}
}

func randomType(r *rand.Rand, names []string, lists int) api.TypeRef {
	x := api.TypeRef{Bang: r.Intn(3) == 0}
	if r.Intn(3+lists) == 0 {
		x.Of = []api.TypeRef{randomType(r, names, lists+1)}
	} else {
		x.Name = names[r.Intn(len(names))]
	}
	return x
}

func randomValue(r *rand.Rand, fields []string, around int) api.Value {
	name := func() string { return fields[r.Intn(len(fields))] }
	v := api.Value{Kind: byte(r.Intn(int(api.VRef) + 1))}
	switch v.Kind {
	case api.VInt:
		v.N = []int64{0, 1<<31 - 1, 1 << 31, -1 << 31, -1<<31 - 1, 1 << 32}[r.Intn(6)]
	case api.VBool:
		v.N = int64(r.Intn(2))
	case api.VList:
		for range r.Intn(max(1, 4-around)) {
			v.L = append(v.L, randomValue(r, fields, around+1))
		}
	case api.VObject:
		for range r.Intn(max(1, 4-around)) {
			v.K, v.L = append(v.K, name()), append(v.L, randomValue(r, fields, around+1))
		}
	case api.VNull:
	default:
		v.S = name()
	}
	return v
}

// P9.3: values that fit, or nearly so, by the types of what they are for.
func TestRandomFits(t *testing.T) {
	r := rand.New(rand.NewSource(2))
	s, p := built(t, fitting), plain(types(t, fitting))
	seen := [2]int{}
	for range 100000 {
		typ := randomType(r, []string{"Int", "ID", "Boolean", "String", "E", "N", "M", "K", "A"}, 0)
		v := nearly(r, p, typ)
		want := p.fits(typ, v)
		if s.Fits(typ, v) != want {
			t.Fatalf("Fits(%+v, %+v) = %t", typ, v, !want)
		}
		if want {
			seen[1]++
		} else {
			seen[0]++
		}
	}
	if min(seen[0], seen[1]) < 20000 {
		t.Error(seen)
	}
}

// nearly makes a value for a type, with a fault now and then.
func nearly(r *rand.Rand, p plain, typ api.TypeRef) api.Value {
	switch n := r.Intn(30); {
	case n == 0:
		return randomValue(r, []string{"i", "V"}, 0)
	case n < 3:
		return api.Value{}
	case len(typ.Of) > 0 && n < 9:
		return nearly(r, p, typ.Of[0])
	case len(typ.Of) > 0:
		v := values()
		for range r.Intn(4) {
			v.L = append(v.L, nearly(r, p, typ.Of[0]))
		}
		return v
	}
	switch {
	case typ.Name == "Int":
		return num(r.Int63n(1<<33) - 1<<32)
	case typ.Name == "Boolean":
		return api.Value{Kind: api.VBool, N: int64(r.Intn(2))}
	case typ.Name == "ID" && r.Intn(2) == 0:
		return num(r.Int63())
	case isScalar(typ.Name):
		return value(api.VText, "V")
	case p.kind(typ.Name) == api.TEnum:
		return value(api.VEnum, []string{"V", "W", "X"}[min(2, r.Intn(9)/4)])
	}
	v := object(nil)
	if x := p.find(typ.Name); x != nil {
		for _, f := range x.Fields {
			for range []int{0, 1, 1, 1, 1, 1, 1, 2}[r.Intn(8)] {
				v.K, v.L = append(v.K, f.Name), append(v.L, nearly(r, p, f.T))
			}
		}
	}
	return v
}
