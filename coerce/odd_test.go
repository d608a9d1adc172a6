package coerce_test

import (
	"runtime/debug"
	"slices"
	"strconv"
	"testing"

	"columbary/api"
	"columbary/coerce"
	"columbary/schema"
)

// P1: any values, with any number of names, for any types, with and without a schema.
func TestOdd(t *testing.T) {
	var values []api.Value
	for k := range 256 {
		for _, names := range [][]string{nil, {"i"}, {"i", "i"}, {"q", "i", "a"}} {
			values = append(values, api.Value{Kind: byte(k), S: "i", K: names, L: []api.Value{{Kind: byte(k)}}})
		}
		values = append(values, api.Value{Kind: byte(k), K: []string{"i"}})
	}
	for _, s := range []*schema.Schema{nil, new(schema.Schema), built(t, whole)} {
		for _, v := range values {
			coerce.Get(v, "i")
			coerce.Get(v, "a")
			for _, n := range []string{"", "Int", "M", "N", "R", "A", "E"} {
				typ := api.TypeRef{Name: n}
				many := api.TypeRef{Name: n, Of: []api.TypeRef{typ, {}}}
				for _, x := range []api.TypeRef{typ, many} {
					coerce.Literal(s, x, v, v)
					coerce.Input(s, x, v)
					f := api.FieldDef{Name: "i", T: x, Has: true, V: v}
					coerce.Args(s, api.FieldDef{Args: []api.FieldDef{f, {}}}, []api.Arg{{Name: "i", V: v}}, v)
					coerce.Args(s, f, nil, v)
					coerce.Vars(s, []api.VarDef{{}, {Name: "i", T: x, Has: true, V: v}}, v)
				}
			}
		}
		coerce.Args(s, api.FieldDef{}, nil, api.Value{})
		coerce.Vars(s, nil, api.Value{})
	}
}

// P1: types and values may be nested deeper than calls can be.
func TestDeep(t *testing.T) {
	defer debug.SetMaxStack(debug.SetMaxStack(1 << 18))
	const n = 100000
	typ, v := api.TypeRef{Name: "ID", Bang: true}, api.Value{Kind: api.VInt, N: 7}
	deepest := api.Value{Kind: api.VText, S: "7"}
	bad, free := api.Value{Kind: api.VBool}, api.Value{Kind: api.VVar, S: "x"}
	single := v
	for range n {
		typ = api.TypeRef{Of: []api.TypeRef{typ}}
		for _, x := range []*api.Value{&v, &deepest, &bad, &free} {
			*x = api.Value{Kind: api.VList, L: []api.Value{*x}}
		}
	}
	s := built(t, whole)
	for _, x := range []api.Value{v, single, deepest} {
		y, ok, e := coerce.Literal(s, typ, x, api.Value{})
		if !ok || e != api.OK || !sameLists(y, deepest) {
			t.Error("Literal", ok, e)
		}
		if y, e := coerce.Input(s, typ, x); e != api.OK || !sameLists(y, deepest) {
			t.Error("Input", e)
		}
		f := api.FieldDef{Args: []api.FieldDef{{Name: "a", T: typ, Has: true, V: x}}}
		if y, name, e := coerce.Args(s, f, nil, api.Value{}); e != api.OK || name != "" || !sameLists(y.L[0], deepest) {
			t.Error("Args", name, e)
		}
		l := []api.VarDef{{Name: "a", T: typ}}
		given := api.Value{Kind: api.VObject, K: []string{"a"}, L: []api.Value{x}}
		if y, name, e := coerce.Vars(s, l, given); e != api.OK || name != "" || !sameLists(y.L[0], deepest) {
			t.Error("Vars", name, e)
		}
	}
	for want, x := range map[api.Errno]api.Value{api.ErrType: bad, api.ErrNull: free} {
		if _, ok, e := coerce.Literal(s, typ, x, api.Value{}); ok || e != want {
			t.Error(ok, e)
		}
	}
	if _, e := coerce.Input(s, api.TypeRef{Of: []api.TypeRef{typ}}, bad); e != api.ErrType {
		t.Error(e)
	}
}

func sameLists(a, b api.Value) bool {
	for a.Kind == api.VList && b.Kind == api.VList && len(a.L) == 1 && len(b.L) == 1 {
		a, b = a.L[0], b.L[0]
	}
	return same(a, b)
}

// P1: as many names and variables as may be.
func TestMany(t *testing.T) {
	const n = 20000
	f := api.FieldDef{Name: "f"}
	var l []api.Arg
	var defs []api.VarDef
	vars := api.Value{Kind: api.VObject}
	uses := api.Value{Kind: api.VList}
	for i := range n {
		name := "name" + strconv.Itoa(i)
		f.Args = append(f.Args, api.FieldDef{Name: name, T: api.TypeRef{Name: "Int"}})
		l = append(l, api.Arg{Name: name, V: api.Value{Kind: api.VVar, S: name}})
		defs = append(defs, api.VarDef{Name: name, T: api.TypeRef{Name: "Int", Bang: true}})
		vars.K = append(vars.K, name)
		vars.L = append(vars.L, api.Value{Kind: api.VInt, N: int64(i)})
		uses.L = append(uses.L, l[i].V)
	}
	s := built(t, whole)
	if v, _, e := coerce.Args(s, f, l, vars); e != api.OK || !same(v, vars) {
		t.Error("Args", e)
	}
	if v, _, e := coerce.Vars(s, defs, vars); e != api.OK || !same(v, vars) {
		t.Error("Vars", e)
	}
	if v, _, e := coerce.Literal(s, api.TypeRef{Of: []api.TypeRef{{Name: "Int"}}}, uses, vars); e != api.OK || !same(v.L, vars.L) {
		t.Error("Literal", e)
	}
}

// roomy gives each list some capacity that it does not use.
func roomy(v api.Value) api.Value {
	v.K, v.L = slices.Grow(v.K, 3), slices.Grow(v.L, 3)
	for i, x := range v.L {
		v.L[i] = roomy(x)
	}
	return v
}

// wide shows the capacity, too.
func wide(v api.Value) []any {
	out := []any{v.Kind, v.N, v.S, v.K[:len(v.K)+3], len(v.L)}
	for _, x := range v.L {
		out = append(out, wide(x))
	}
	return append(out, v.L[len(v.L):len(v.L)+3])
}

// spoil changes all that is in a value's own lists, and their capacity.
func spoil(v api.Value) {
	for i := range v.K[:cap(v.K)] {
		v.K[:cap(v.K)][i] = "spoilt"
	}
	for i := range v.L[:cap(v.L)] {
		v.L[:cap(v.L)][i] = api.Value{Kind: api.VText, S: "spoilt"}
	}
}

// DOC.md: an argument is not modified, nor is its spare capacity; the lists in a result are new memory.
func TestMemory(t *testing.T) {
	s := built(t, whole)
	const text = `[{i: 1, s: "x", l: [[1, $b], 2], e: V}, {d: 4}, $a]`
	vars := roomy(valueOf(t, `{a: {i: 1}, b: "q", c: [1, 2]}`))
	v := roomy(valueOf(t, text))
	before := []any{wide(v), wide(vars)}
	check := func(what string) {
		t.Helper()
		if !same([]any{wide(v), wide(vars)}, before) {
			t.Fatalf("%s has changed an argument", what)
		}
	}
	typ := typeOf(t, "[N!]")
	for range 2 {
		x, ok, e := coerce.Literal(s, typ, v, vars)
		check("Literal")
		if want := valueOf(t, `[{i: 1, s: "x", e: [V], d: "3", l: [["1", "q"], ["2"]], n: null, f: W}, {i: 7, s: "x", d: "4", l: [["5"]], n: null, f: W}, {i: 1}]`); !ok || e != api.OK || !same(x, want) {
			t.Fatalf("%+v, %d; want %+v", x, e, want)
		}
		spoil(x.L[0].L[4].L[0])
		spoil(x.L[0].L[4])
		spoil(x.L[0])
		spoil(x.L[1].L[3])
		spoil(x.L[1])
		spoil(x)
		check("spoiling a result of Literal")
		y, e := coerce.Input(s, typeOf(t, "[Int!]"), vars.L[2])
		if e != api.OK || !same(y, vars.L[2]) {
			t.Fatalf("%+v, %d", y, e)
		}
		spoil(y)
		z, _, e := coerce.Vars(s, varsOf(t, "$c: [Int] $b: String"), vars)
		if e != api.OK || !same(z, valueOf(t, `{c: [1, 2], b: "q"}`)) {
			t.Fatalf("%+v, %d", z, e)
		}
		spoil(z.L[0])
		spoil(z)
		check("spoiling a result")
	}
}

// DOC.md: Args neither keeps nor changes declarations and arguments.
func TestArgsMemory(t *testing.T) {
	s := built(t, whole)
	f, l := argsOf(t, "a: [Int] = [1, 2] b: M", "b: {i: 3}")
	f.Args, l = slices.Grow(f.Args, 3), slices.Grow(l, 3)
	show := func() []any {
		return []any{f.Args[:len(f.Args)+3], l[:len(l)+3]}
	}
	before := show()[0].([]api.FieldDef)
	fields, args := slices.Clone(before), slices.Clone(show()[1].([]api.Arg))
	for range 2 {
		v, _, e := coerce.Args(s, f, l, api.Value{})
		if e != api.OK || !same(v, valueOf(t, "{a: [1, 2], b: {i: 3}}")) {
			t.Fatalf("%+v, %d", v, e)
		}
		spoil(v.L[0])
		spoil(v.L[1])
		spoil(v)
		if !same(show(), []any{fields, args}) {
			t.Fatalf("%+v", show())
		}
	}
}
