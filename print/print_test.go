package print_test

import (
	"math"
	"runtime/debug"
	"strings"
	"testing"

	"columbary/api"
	"columbary/print"
)

func many(s string, n int) string { return strings.Repeat(s, n) }

func num(n int64) api.Value { return api.Value{Kind: api.VInt, N: n} }

func value(kind byte, s string) api.Value { return api.Value{Kind: kind, S: s} }

func list(l ...api.Value) api.Value { return api.Value{Kind: api.VList, L: l} }

func object(k []string, l ...api.Value) api.Value {
	return api.Value{Kind: api.VObject, K: k, L: l}
}

func named(name string) api.TypeRef { return api.TypeRef{Name: name} }

func of(t api.TypeRef, bang bool) api.TypeRef { return api.TypeRef{Of: []api.TypeRef{t}, Bang: bang} }

func field(name string, sub ...api.Selection) api.Selection {
	return api.Selection{Kind: api.SField, Name: name, Sub: sub}
}

func is(t *testing.T, got, want string) {
	t.Helper()
	if got != want {
		t.Errorf("%s; want %s", got, want)
	}
}

// The chapter's example.
func TestExample(t *testing.T) {
	b := field("b")
	b.Alias, b.Args = "a", []api.Arg{{Name: "c", V: list(num(1), num(2))}}
	d := api.Doc{Ops: []api.Operation{{Sub: []api.Selection{b, {Kind: api.SSpread, Name: "F"}}}}}
	is(t, print.Document(d), "query { a: b(c: [1, 2]) ...F }")
}

// P8.1.
func TestQuote(t *testing.T) {
	for s, want := range map[string]string{
		"": `""`, "a": `"a"`, "a b": `"a b"`, `\`: `"\\"`, `"`: `"\""`, "\n": `"\n"`, "\t": `"\t"`, "/": `"/"`, `\n`: `"\\n"`, "\\\n\t\"": `"\\\n\t\""`, `\"`: `"\\\""`, "'": `"'"`,
		"\r\x00\x7f\b": "\"\r\x00\x7f\b\"", "é\xff\u2028": "\"é\xff\u2028\"", "$a #,": `"$a #,"`, "nt": `"nt"`,
	} {
		is(t, print.Quote(s), want)
	}
	for b := range 256 {
		if s := string([]byte{byte(b)}); !strings.Contains("\\\"\n\t", s) {
			is(t, print.Quote("a"+s+"b"), `"a`+s+`b"`)
		}
	}
}

// P8.1.
func TestValue(t *testing.T) {
	e := value(api.VEnum, "E")
	for want, v := range map[string]api.Value{
		"null": {}, "0": num(0), "1": num(1), "-1": num(-1), "9223372036854775807": num(math.MaxInt64), "-9223372036854775808": num(math.MinInt64),
		`"a\n\"b"`: value(api.VText, "a\n\"b"), `""`: value(api.VText, ""), `"i\\d"`: value(api.VRef, `i\d`),
		"true": {Kind: api.VBool, N: 1}, "false": {Kind: api.VBool}, "E": e, "$v": value(api.VVar, "v"),
		"[]": list(), "[E]": list(e), "[1, E, 2]": list(num(1), e, num(2)), "[[], [[null]], {}]": list(list(), list(list(api.Value{})), object(nil)),
		"{}": object(nil), "{a: 1}": object([]string{"a"}, num(1)), "{b: 1, a: E, b: [1, {}]}": object([]string{"b", "a", "b"}, num(1), e, list(num(1), object(nil))), "{a: {b: {c: $d}}}": object([]string{"a"}, object([]string{"b"}, object([]string{"c"}, value(api.VVar, "d")))),
	} {
		is(t, print.Value(v), want)
		is(t, print.Value(list(v, v)), "["+want+", "+want+"]")
	}
	is(t, print.Value(api.Value{Kind: api.VBool, N: 2}), "false")
	is(t, print.Value(api.Value{Kind: api.VBool, N: -1}), "false")
}

// P8.1.
func TestType(t *testing.T) {
	b, n := named("B"), api.TypeRef{Name: "B", Bang: true}
	for want, x := range map[string]api.TypeRef{"B": b, "B!": n, "[B]": of(b, false), "[B!]": of(n, false), "[B]!": of(b, true), "[B!]!": of(n, true), "[[B!]]!": of(of(n, false), true), "[[B]!]": of(of(b, true), false)} {
		is(t, print.Type(x), want)
	}
	is(t, print.Type(api.TypeRef{Name: "A", Of: []api.TypeRef{b, named("C")}}), "[B]")
}

// arguments are as many as their names.
func arguments(names ...string) []api.Arg {
	var l []api.Arg
	for i, name := range names {
		l = append(l, api.Arg{Name: name, V: num(int64(i + 1))})
	}
	return l
}

// P8.1: fields.
func TestField(t *testing.T) {
	a := field("a")
	is(t, print.Selection(a), "a")
	a.Alias = "b"
	is(t, print.Selection(a), "b: a")
	a.Args = arguments("c")
	is(t, print.Selection(a), "b: a(c: 1)")
	a.Args = arguments("c", "d", "c")
	is(t, print.Selection(a), "b: a(c: 1, d: 2, c: 3)")
	a.Dirs = []api.Directive{{Name: "e"}, {Name: "f", Args: arguments("g", "h")}}
	is(t, print.Selection(a), "b: a(c: 1, d: 2, c: 3) @e @f(g: 1, h: 2)")
	a.Sub = []api.Selection{field("i", field("j")), field("k")}
	is(t, print.Selection(a), "b: a(c: 1, d: 2, c: 3) @e @f(g: 1, h: 2) { i { j } k }")
	a.Alias, a.Args = "", nil
	is(t, print.Selection(a), "a @e @f(g: 1, h: 2) { i { j } k }")
	a.Dirs = nil
	is(t, print.Selection(a), "a { i { j } k }")
	a.Args = []api.Arg{{Name: "x", V: object([]string{"y"}, list(value(api.VText, "\t")))}}
	is(t, print.Selection(a), `a(x: {y: ["\t"]}) { i { j } k }`)
}

// P8.1: spreads and inline fragments.
func TestFragmentsInSets(t *testing.T) {
	d := []api.Directive{{Name: "d", Args: arguments("if")}, {Name: "e"}}
	s := api.Selection{Kind: api.SSpread, Name: "F"}
	is(t, print.Selection(s), "...F")
	s.Dirs = d
	is(t, print.Selection(s), "...F @d(if: 1) @e")
	x := api.Selection{Kind: api.SInline, Sub: []api.Selection{s, field("a")}}
	is(t, print.Selection(x), "... { ...F @d(if: 1) @e a }")
	x.On = "T"
	is(t, print.Selection(x), "... on T { ...F @d(if: 1) @e a }")
	x.Sub = x.Sub[1:]
	is(t, print.Selection(x), "... on T { a }")
	x.Dirs = d
	is(t, print.Selection(x), "... on T @d(if: 1) @e { a }")
	x.On = ""
	is(t, print.Selection(x), "... @d(if: 1) @e { a }")
	is(t, print.Selection(field("a", x, s)), "a { ... @d(if: 1) @e { a } ...F @d(if: 1) @e }")
}

// P8.2: documents.
func TestDocument(t *testing.T) {
	a := []api.Selection{field("a")}
	q := api.Operation{Sub: a}
	of := func(l ...api.Operation) string { return print.Document(api.Doc{Ops: l}) }
	is(t, of(), "")
	is(t, of(q), "query { a }")
	q.Name = "Q"
	is(t, of(q), "query Q { a }")
	q.Vars = []api.VarDef{{Name: "b", T: named("B")}}
	is(t, of(q), "query Q($b: B) { a }")
	q.Vars = append(q.Vars, api.VarDef{Name: "c", T: api.TypeRef{Name: "C", Bang: true}, Has: true}, api.VarDef{Name: "d", T: named("D"), Has: true, V: list(num(1), num(2))}, api.VarDef{Name: "e", T: named("E"), V: num(1)})
	is(t, of(q), "query Q($b: B, $c: C! = null, $d: D = [1, 2], $e: E) { a }")
	q.Name, q.Vars = "", q.Vars[:2]
	is(t, of(q), "query($b: B, $c: C! = null) { a }")
	m := api.Operation{Mutation: true, Sub: []api.Selection{field("a", a...), field("b")}}
	is(t, of(m), "mutation { a { a } b }")
	m.Name = "M"
	is(t, of(m, q, m), "mutation M { a { a } b } query($b: B, $c: C! = null) { a } mutation M { a { a } b }")
	f, g := api.Fragment{Name: "F", On: "T", Sub: a}, api.Fragment{Name: "G", On: "U", Sub: m.Sub}
	is(t, print.Document(api.Doc{Frags: []api.Fragment{f}}), "fragment F on T { a }")
	is(t, print.Document(api.Doc{Frags: []api.Fragment{f, g}}), "fragment F on T { a } fragment G on U { a { a } b }")
	is(t, print.Document(api.Doc{Ops: []api.Operation{m}, Frags: []api.Fragment{g, f}}), "mutation M { a { a } b } fragment G on U { a { a } b } fragment F on T { a }")
}

// P8.2: types.
func TestTypes(t *testing.T) {
	f := []api.FieldDef{{Name: "a", T: of(named("B"), true)}}
	object := api.TypeDef{Kind: api.TObject, Name: "A", Fields: f}
	is(t, print.Types(nil), "")
	is(t, print.Types([]api.TypeDef{object}), "type A { a: [B]! }")
	for kind, want := range map[byte]string{api.TObject: "type", api.TInterface: "interface", api.TInput: "input"} {
		is(t, print.Types([]api.TypeDef{{Kind: kind, Name: "A", Fields: f}}), want+" A { a: [B]! }")
	}
	for kind, want := range map[byte]string{api.TUnion: "union A = B", api.TEnum: "enum A { B }"} {
		is(t, print.Types([]api.TypeDef{{Kind: kind, Name: "A", Names: []string{"B"}}}), want)
	}
	for kind, want := range map[byte]string{api.TUnion: "union A = B | C | B", api.TEnum: "enum A { B C B }", api.TObject: "type A implements B & C & B { a: [B]! }"} {
		x := api.TypeDef{Kind: kind, Name: "A", Names: []string{"B", "C", "B"}}
		if kind == api.TObject {
			x.Fields = f
		}
		is(t, print.Types([]api.TypeDef{x}), want)
		is(t, print.Types([]api.TypeDef{x, object, x}), want+" type A { a: [B]! } "+want)
	}
	object.Names = []string{"I"}
	is(t, print.Types([]api.TypeDef{object}), "type A implements I { a: [B]! }")
}

// P8.2: fields of types.
func TestFields(t *testing.T) {
	in := []api.FieldDef{{Name: "c", T: named("C")}, {Name: "d", T: api.TypeRef{Name: "D", Bang: true}, Has: true}, {Name: "e", T: named("E"), Has: true, V: list(num(1), num(2))}, {Name: "f", T: named("F"), V: num(3)}}
	f := []api.FieldDef{{Name: "a", T: named("B"), Args: in[:1]}, {Name: "b", T: named("B"), Args: in}, {Name: "a", T: named("B")}}
	const args = "c: C, d: D! = null, e: E = [1, 2], f: F"
	is(t, print.Types([]api.TypeDef{{Kind: api.TInterface, Name: "I", Fields: f}}), "interface I { a(c: C): B b("+args+"): B a: B }")
	is(t, print.Types([]api.TypeDef{{Kind: api.TObject, Name: "T", Fields: f[:1]}}), "type T { a(c: C): B }")
	is(t, print.Types([]api.TypeDef{{Kind: api.TInput, Name: "N", Fields: in}}), "input N { c: C d: D! = null e: E = [1, 2] f: F }")
}

// What has no form in a text is printed as the words say, and P1: without a panic.
func TestOdd(t *testing.T) {
	is(t, print.Document(api.Doc{Ops: []api.Operation{{}}, Frags: []api.Fragment{{}}}), "query {  } fragment  on  {  }")
	is(t, print.Types([]api.TypeDef{{Kind: api.TObject}, {Kind: api.TUnion}, {Kind: api.TEnum}}), "type  {  } union  =  enum  {  }")
	is(t, print.Selection(api.Selection{Kind: api.SInline}), "...")
	is(t, print.Selection(api.Selection{Kind: api.SSpread, Name: "F", Alias: "b", On: "T", Args: arguments("c"), Sub: []api.Selection{field("a")}}), "...F { a }")
	is(t, print.Selection(api.Selection{Kind: api.SInline, Name: "F", Args: arguments("c")}), "...")
	for k := range 256 {
		kind := byte(k)
		print.Value(api.Value{Kind: kind, N: 5, S: "x", K: []string{"a", "b"}, L: []api.Value{num(1)}})
		print.Value(api.Value{Kind: kind, K: []string{"a"}, L: []api.Value{num(1), num(2)}})
		print.Selection(api.Selection{Kind: kind, Sub: []api.Selection{{Kind: kind}}})
		print.Types([]api.TypeDef{{Kind: kind}, {Kind: kind, Names: []string{""}, Fields: []api.FieldDef{{Args: []api.FieldDef{{}}}}}})
	}
}

// P1: things may be nested deeper than calls can be.
func TestDeep(t *testing.T) {
	defer debug.SetMaxStack(debug.SetMaxStack(1 << 18))
	const n = 100000
	l, o, b, x, f := list(), object(nil), named("B"), field("a"), api.FieldDef{Name: "a", T: named("B")}
	for range n {
		l, o, b = list(l), object([]string{"a"}, o), of(b, true)
		x, f = field("a", x), api.FieldDef{Name: "a", T: named("B"), Args: []api.FieldDef{f}}
	}
	for want, got := range map[string]string{
		many("[", n+1) + many("]", n+1):                               print.Value(l),
		many("{a: ", n) + "{}" + many("}", n):                         print.Value(o),
		many("[", n) + "B" + many("]!", n):                            print.Type(b),
		many("a { ", n) + "a" + many(" }", n):                         print.Selection(x),
		"type T { " + many("a(", n) + "a: B" + many("): B", n) + " }": print.Types([]api.TypeDef{{Kind: api.TObject, Name: "T", Fields: []api.FieldDef{f}}}),
	} {
		if got != want {
			t.Errorf("%d bytes: %s ..; want %d: %s ..", len(got), got[:20], len(want), want[:20])
		}
	}
}
