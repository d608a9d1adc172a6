package sdl_test

import (
	"fmt"
	"strings"
	"testing"

	"columbary/api"
	"columbary/sdl"
)

func many(s string, n int) string { return strings.Repeat(s, n) }

func named(name string) api.TypeRef { return api.TypeRef{Name: name} }

func list(t api.TypeRef, bang bool) api.TypeRef { return api.TypeRef{Of: []api.TypeRef{t}, Bang: bang} }

func field(name, typ string, args ...api.FieldDef) api.FieldDef {
	return api.FieldDef{Name: name, T: named(typ), Args: args}
}

func preset(name, typ string, v api.Value) api.FieldDef {
	return api.FieldDef{Name: name, T: named(typ), Has: true, V: v}
}

func num(n int64) api.Value { return api.Value{Kind: api.VInt, N: n} }

func object(name string, implements []string, fields ...api.FieldDef) api.TypeDef {
	return api.TypeDef{Kind: api.TObject, Name: name, Names: implements, Fields: fields}
}

func input(name string, fields ...api.FieldDef) api.TypeDef {
	return api.TypeDef{Kind: api.TInput, Name: name, Fields: fields}
}

func union(name string, names ...string) api.TypeDef {
	return api.TypeDef{Kind: api.TUnion, Name: name, Names: names}
}

func enum(name string, names ...string) api.TypeDef {
	return api.TypeDef{Kind: api.TEnum, Name: name, Names: names}
}

// same does not tell nil from empty.
func same(a, b any) bool { return fmt.Sprintf("%+v", a) == fmt.Sprintf("%+v", b) }

func gives(t *testing.T, s string, want ...api.TypeDef) {
	t.Helper()
	l, at, e := sdl.Types(s)
	if e != api.OK || at != 0 || !same(l, want) {
		t.Errorf("Types(%q) = %+v, %d, %d; want %+v", s, l, at, e, want)
	}
}

func fails(t *testing.T, s string, at int, e api.Errno) {
	t.Helper()
	if l, a, f := sdl.Types(s); len(l) != 0 || a != at || f != e {
		t.Errorf("Types(%q) = %+v, %d, %d; want the offset %d and the error %d", s, l, a, f, at, e)
	}
}

// failsAt has a mark ^ before the token at fault, and before the blanks that are there.
func failsAt(t *testing.T, e api.Errno, marked ...string) {
	t.Helper()
	for _, s := range marked {
		before, after, _ := strings.Cut(s, "^")
		fails(t, before+after, len(s)-1-len(strings.TrimLeft(after, " ")), e)
	}
}

// The chapter's example.
func TestExample(t *testing.T) {
	b := api.FieldDef{Name: "b", Args: []api.FieldDef{preset("c", "Int", num(3))}, T: list(api.TypeRef{Name: "B", Bang: true}, true)}
	gives(t, "type A { b(c: Int = 3): [B!]! }", object("A", nil, b))
}

// P7.1: the types in their order.
func TestDefinitions(t *testing.T) {
	a := field("a", "B")
	gives(t, "type A{a:B}", object("A", nil, a))
	gives(t, "interface A{a:B}", api.TypeDef{Kind: api.TInterface, Name: "A", Fields: []api.FieldDef{a}})
	gives(t, "union A=B", union("A", "B"))
	gives(t, "enum A{B}", enum("A", "B"))
	gives(t, "input A{a:B}", input("A", a))
	gives(t, "union Z=A|B,type A{a:B}type A{a:B}#}\nenum B{C}union Z=|Z input A{a:B}interface C{a:B}",
		union("Z", "A", "B"), object("A", nil, a), object("A", nil, a), enum("B", "C"), union("Z", "Z"), input("A", a), api.TypeDef{Kind: api.TInterface, Name: "C", Fields: []api.FieldDef{a}})
	failsAt(t, api.ErrText, "^", " # type A{a:B}^", "^A", "^{a}", "^query{a}", "^scalar A", "^Type A{a:B}", `^"text"type A{a:B}`, "^1", "^}", "^|", "^extend type A{a:B}", "^directive@a", "^schema{query:Q}", "^implements A",
		"type A{a:B}^}", "type A{a:B}^A", "type A{a:B}^implements B", "type A{a:B}^{a:B}", "type A{a:B}^1", "union A=B^ C", "union A=B^{c:D}", "union A=B^&C", "enum A{B}^|C", "enum A{B}^{C}", "input A{a:B}^!", "interface A{a:B}^&")
}

// P7.1: names and keywords; keywords are not reserved.
func TestNames(t *testing.T) {
	gives(t, "type type{type:type}", object("type", nil, field("type", "type")))
	gives(t, "type implements implements implements{implements:implements}", object("implements", []string{"implements"}, field("implements", "implements")))
	gives(t, "type true{null(false:true):on}", object("true", nil, field("null", "on", field("false", "true"))))
	gives(t, "union union=union|type|interface type type{a:B}", union("union", "union", "type", "interface"), object("type", nil, field("a", "B")))
	gives(t, "union null=true|false|null", union("null", "true", "false", "null"))
	gives(t, "enum enum{enum type input True nulls}", enum("enum", "enum", "type", "input", "True", "nulls"))
	gives(t, "enum true{a}input input{input:input=input}", enum("true", "a"), input("input", preset("input", "input", api.Value{Kind: api.VEnum, S: "input"})))
	for _, word := range []string{"type", "interface", "union", "enum", "input"} {
		failsAt(t, api.ErrText, word+"^", word+"^{a:B}", word+"^ 1{a:B}", word+"^=A", word+`^"A"{a:B}`, word+"^:A", word+" A^", word+" A^}", word+" A^ B", word+" A^@d{a:B}", word+" A^(a:B)")
	}
}

// P7.1: the interfaces of a type.
func TestImplements(t *testing.T) {
	a := field("a", "B")
	gives(t, "type A implements B{a:B}", object("A", []string{"B"}, a))
	gives(t, "type A implements B&C & B{a:B}", object("A", []string{"B", "C", "B"}, a))
	gives(t, "type A implements&B&C{a:B}", object("A", []string{"B", "C"}, a))
	gives(t, "type A implements & B{a:B}", object("A", []string{"B"}, a))
	failsAt(t, api.ErrText, "type A implements^", "type A implements^{a:B}", "type A implements&^{a:B}", "type A implements&^&B{a:B}", "type A implements B&^{a:B}", "type A implements B&^&C{a:B}", "type A implements B^ C{a:B}", "type A implements B^|C{a:B}", "type A implements^|B{a:B}", "type A implements B^", "type A implements B&^", "type A implements B^}", "type A implements^ 1{a:B}", "type A^&B{a:B}", "type A^ B{a:B}", "type A^ Implements B{a:B}", "type A implements B^ implements C{a:B}",
		"interface A^ implements B{a:B}", "input A^ implements B{a:B}", "enum A^ implements B{C}", "union A^ implements B=C")
}

// P7.1: the members of a union.
func TestUnions(t *testing.T) {
	gives(t, "union A=B|C|B", union("A", "B", "C", "B"))
	gives(t, "union A=|B|C", union("A", "B", "C"))
	gives(t, "union A = | B", union("A", "B"))
	failsAt(t, api.ErrText, "union A^", "union A^ B", "union A^|B", "union A^{B}", "union A^:B", "union A=^", "union A=|^", "union A=|^|B", "union A=B|^", "union A=B|^|C", "union A=B^&C", "union A=^&B", "union A=^{B}", "union A=^[B]", "union A=B^!", "union A=^=B", "union A=^1", "union A=B,^C", "union A=B|^1", "union A=B|^}")
}

// P7.1: the values of an enum.
func TestEnums(t *testing.T) {
	gives(t, "enum A{B C,B}", enum("A", "B", "C", "B"))
	failsAt(t, api.ErrText, "enum A{^}", "enum A{^", "enum A{B^", "enum A^=B", "enum A^[B]", "enum A{B^|C}", "enum A{B^:C}", "enum A{^1}", `enum A{^"B"}`, "enum A{^{B}}", "enum A{B^)", "enum A{B^@d}")
	for _, word := range []string{"true", "false", "null"} {
		failsAt(t, api.ErrText, "enum A{^"+word+"}", "enum A{B^ "+word+"}", "enum A{B C D^ "+word)
	}
}

// P7.1: fields with their inputs.
func TestFields(t *testing.T) {
	args := []api.FieldDef{preset("b", "C", num(-1)), field("d", "E"), field("b", "F")}
	for word, kind := range map[string]byte{"type": api.TObject, "interface": api.TInterface} {
		gives(t, word+" A{a:B b:C,a:D}", api.TypeDef{Kind: kind, Name: "A", Fields: []api.FieldDef{field("a", "B"), field("b", "C"), field("a", "D")}})
		gives(t, word+" A{a(b:C=-1 d:E,b:F):G h:I}", api.TypeDef{Kind: kind, Name: "A", Fields: []api.FieldDef{field("a", "G", args...), field("h", "I")}})
		failsAt(t, api.ErrText, word+" A{^}", word+" A{^", word+" A{^:B}", word+" A{^1:B}", word+" A{^(a:B):C}", word+" A{^{}}", word+" A{a^}", word+" A{a^", word+" A{a^ B}", word+" A{a^=1}", word+" A{a^{b:C}}", word+" A{a:^}", word+" A{a:^", word+" A{a:^1}", word+" A{a:^!}", word+" A{a:^(b:C)}", word+" A{a:B^", word+" A{a:B^)", word+" A{a:B^=1}", word+" A{a:B^(c:D)}", word+" A{a:B^@d}", word+" A{a:B^:C}", word+` A{^"text"a:B}`, word+" A{^&}",
			word+" A{a(^):B}", word+" A{a(^", word+" A{a(^:B):C}", word+" A{a(b^):C}", word+" A{a(b^=1):C}", word+" A{a(b:^):C}", word+" A{a(b:C^:D", word+" A{a(b:C^", word+" A{a(b:C)^}", word+" A{a(b:C)^(d:E):F}", word+" A{a(b:C)^=1}", word+" A{a(b^(c:D):E):F}", word+" A{a(b:C=^):D}", word+" A{a(b:C=1^ 2):D}", word+" A{a(b:C=1^!):D}", word+" A{a(b:C=^$d):E}", word+" A{a(b:C):^}", word+" A{a(^$b:C):D}", word+" A{a(b:C^}")
	}
}

// P7.1: the fields of an input.
func TestInputs(t *testing.T) {
	gives(t, "input A{a:B b:C=1,a:D=null}", input("A", field("a", "B"), preset("b", "C", num(1)), preset("a", "D", api.Value{})))
	failsAt(t, api.ErrText, "input A{^}", "input A{^", "input A{^:B}", "input A{a^}", "input A{a^(b:C):D}", "input A{a^=1}", "input A{a:^}", "input A{a:B^", "input A{a:B=^}", "input A{a:B=^", "input A{a:B=^$c}", "input A{a:B=[1 ^$c]}", "input A{a:B=1^=2}", "input A{a:B=1^ 2}", "input A{a:B^:C}", "input A{a:B^)", "input A^=B", "input A{a:B=^:C}")
}

// P7.1: types as in layer 6.
func TestTypeRefs(t *testing.T) {
	b := named("B")
	n := api.TypeRef{Name: "B", Bang: true}
	for s, want := range map[string]api.TypeRef{"B!": n, "[B]": list(b, false), "[B!]": list(n, false), "[B]!": list(b, true), "[[B!]]!": list(list(n, false), true)} {
		x := api.FieldDef{Name: "a", T: want}
		gives(t, "type A{a:"+s+" a:"+s+"}", object("A", nil, x, x))
		gives(t, "input A{a:"+s+" a:"+s+"}", input("A", x, x))
		y := api.FieldDef{Name: "c", T: b, Args: []api.FieldDef{x}}
		gives(t, "type A{c(a:"+s+"):B}", object("A", nil, y))
	}
	for _, head := range []string{"type A{a:", "interface A{a(b:C d:E):", "input A{a:B b:", "type A{a:B b(c:D,e:"} {
		failsAt(t, api.ErrText, head+"[^]", head+"[B^}", head+"[B^", head+"B!^!", head+"[B^ C]", head+"[B]^]", head+"^]", head+"[^1]", head+"[[B]^}")
	}
}

// P7.1: values as in layer 6.
func TestDefaults(t *testing.T) {
	value := func(kind byte, s string) api.Value { return api.Value{Kind: kind, S: s} }
	for s, v := range map[string]api.Value{
		"0": num(0), "-5": num(-5), `"a\n"`: value(api.VText, "a\n"), "true": {Kind: api.VBool, N: 1}, "false": {Kind: api.VBool}, "null": {}, "E": value(api.VEnum, "E"),
		"[]": {Kind: api.VList}, "[1[]]": {Kind: api.VList, L: []api.Value{num(1), {Kind: api.VList}}}, "{}": {Kind: api.VObject}, "{b:1,a:{}}": {Kind: api.VObject, K: []string{"b", "a"}, L: []api.Value{num(1), {Kind: api.VObject}}},
	} {
		gives(t, "input A{a:B="+s+" b:B="+s+"}", input("A", preset("a", "B", v), preset("b", "B", v)))
		gives(t, "interface A{a(b:B="+s+" c:B):D}", api.TypeDef{Kind: api.TInterface, Name: "A", Fields: []api.FieldDef{field("a", "D", preset("b", "B", v), field("c", "B"))}})
	}
	for _, head := range []string{"input A{a:B=", "type A{a(b:C=1 d:E="} {
		failsAt(t, api.ErrText, head+"^]", head+"^!", head+"^:", head+"[^}", head+"[1^}", head+"[^", head+"{^1", head+"{b^}", head+"{b:^}", head+"{b:1^]", head+"{b:^$c", head+"^|", head+"^&", head+"^(")
	}
}

// P7.1: at most MaxNest types, or values, are open within one another; what declares them does not count.
func TestDeep(t *testing.T) {
	n := api.MaxNest
	for _, head := range []string{"type A{a:", "interface A{a(b:C d:E):", "type A{a:B b(c:[[D]],e:", "input A{a:[[[B]]]b:"} {
		for _, s := range []string{"B", "[B]", "]", "", "1", "}"} {
			failsAt(t, api.ErrDeep, head+many("[", n)+"^"+s)
		}
		failsAt(t, api.ErrText, head+many("[", n-1)+"B"+many("]", n-1)+"^]", head+many("[", n-1)+"^1")
	}
	for _, head := range []string{"input A{a:B=", "type A{a(b:C=[[1]]d:E="} {
		for _, s := range []string{"1", "[]", "", "$a", "}", "{"} {
			failsAt(t, api.ErrDeep, head+many("[", n)+"^"+s, head+many("{a:", n)+"^"+s)
		}
		failsAt(t, api.ErrText, head+many("[", n)+many("]", n)+"^]", head+many("[", n-1)+"^$a", head+many("{a:", n-1)+"^}")
	}
	b, v := named("B"), num(1)
	for range n - 1 {
		b, v = list(b, false), api.Value{Kind: api.VList, L: []api.Value{v}}
	}
	deep := api.FieldDef{Name: "a", T: b, Has: true, V: v}
	s := "a:" + many("[", n-1) + "B" + many("]", n-1) + "=" + many("[", n-1) + "1" + many("]", n-1)
	gives(t, "input A{"+s+s+"}", input("A", deep, deep))
	gives(t, "type A{b("+s+"):C}", object("A", nil, field("b", "C", deep)))
}

// P7.1: the errors of lex.Tokens are reported, whatever is before them.
func TestLexErrors(t *testing.T) {
	failsAt(t, api.ErrText, "^?", "type A{a:B} ^?", "} ^?", "type A{a:B=0^1}", `}"^`)
	failsAt(t, api.ErrLong, "} ^"+many("a", 33), `1 ^"`+many("a", 201)+`"`)
	failsAt(t, api.ErrArg, "} ^"+many("1", 19))
	fails(t, many("}", api.MaxText+1), 0, api.ErrLong)
	fails(t, many(" ", api.MaxText), api.MaxText, api.ErrText)
	gives(t, "union A=B"+many(" ", api.MaxText-9), union("A", "B"))
	fails(t, "union A=B"+many(" ", api.MaxText-8), 0, api.ErrLong)
}

// Results are new memory.
func TestNewMemory(t *testing.T) {
	s := "union A=B|C type A implements B{a(b:C=[1]):D}"
	a, _, _ := sdl.Types(s)
	b, _, _ := sdl.Types(s)
	_ = append(a[:1], a[0], a[0], a[0])
	_ = append(a[0].Names[:1], "x", "x", "x")
	a[0].Names[0] = "x"
	want := field("a", "D", preset("b", "C", api.Value{Kind: api.VList, L: []api.Value{num(1)}}))
	if l := []api.TypeDef{union("A", "B", "C"), object("A", []string{"B"}, want)}; !same(b, l) {
		t.Errorf("changed through another result: %+v", b)
	}
}
