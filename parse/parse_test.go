package parse_test

import (
	"fmt"
	"strings"
	"testing"

	"columbary/api"
	"columbary/parse"
)

func many(s string, n int) string { return strings.Repeat(s, n) }

func null() api.Value         { return api.Value{} }
func num(n int64) api.Value   { return api.Value{Kind: api.VInt, N: n} }
func text(s string) api.Value { return api.Value{Kind: api.VText, S: s} }
func truth(n int64) api.Value { return api.Value{Kind: api.VBool, N: n} }
func enum(s string) api.Value { return api.Value{Kind: api.VEnum, S: s} }
func vari(s string) api.Value { return api.Value{Kind: api.VVar, S: s} }

func list(l ...api.Value) api.Value { return api.Value{Kind: api.VList, L: l} }

func object(k []string, l ...api.Value) api.Value {
	return api.Value{Kind: api.VObject, K: k, L: l}
}

func field(name string, sub ...api.Selection) api.Selection {
	return api.Selection{Kind: api.SField, Name: name, Sub: sub}
}

func spread(name string, dirs ...api.Directive) api.Selection {
	return api.Selection{Kind: api.SSpread, Name: name, Dirs: dirs}
}

func inline(on string, dirs []api.Directive, sub ...api.Selection) api.Selection {
	return api.Selection{Kind: api.SInline, On: on, Dirs: dirs, Sub: sub}
}

func directive(name string, args ...api.Arg) api.Directive {
	return api.Directive{Name: name, Args: args}
}

func named(name string) api.TypeRef { return api.TypeRef{Name: name} }

func query(sub ...api.Selection) api.Operation { return api.Operation{Sub: sub} }

func ops(l ...api.Operation) api.Doc { return api.Doc{Ops: l} }

// same does not tell nil from empty.
func same(a, b any) bool { return fmt.Sprintf("%+v", a) == fmt.Sprintf("%+v", b) }

func gives(t *testing.T, s string, want api.Doc) {
	t.Helper()
	d, at, e := parse.Document(s)
	if e != api.OK || at != 0 || !same(d, want) {
		t.Errorf("Document(%q) = %+v, %d, %d; want %+v", s, d, at, e, want)
	}
}

// valid is for texts of which only that matters.
func valid(t *testing.T, s string) {
	t.Helper()
	if d, at, e := parse.Document(s); e != api.OK || at != 0 || same(d, api.Doc{}) {
		t.Errorf("Document(%q) = %+v, %d, %d", s, d, at, e)
	}
}

func fails(t *testing.T, s string, at int, e api.Errno) {
	t.Helper()
	if d, a, f := parse.Document(s); !same(d, api.Doc{}) || a != at || f != e {
		t.Errorf("Document(%q) = %+v, %d, %d; want the offset %d and the error %d", s, d, a, f, at, e)
	}
}

// failsAt has a mark ^ before the token at fault, and before the blanks that are there.
func failsAt(t *testing.T, e api.Errno, marked ...string) {
	t.Helper()
	for _, s := range marked {
		before, after, _ := strings.Cut(s, "^")
		fails(t, before+after, len(s)-1-len(strings.TrimLeft(after, " ")), e)
	}
}

// The chapter's example.
func TestExample(t *testing.T) {
	b := field("b")
	b.Alias, b.Args = "a", []api.Arg{{Name: "c", V: list(num(1))}}
	gives(t, "{a:b(c:[1])...F}", ops(query(b, spread("F"))))
}

// P6.1: operations and fragments, each in their order.
func TestDefinitions(t *testing.T) {
	a, b := field("a"), field("b")
	gives(t, "{a}", ops(query(a)))
	gives(t, "query{a}", ops(query(a)))
	gives(t, "query Q{a b}", ops(api.Operation{Name: "Q", Sub: []api.Selection{a, b}}))
	gives(t, "mutation{a}", ops(api.Operation{Mutation: true, Sub: []api.Selection{a}}))
	gives(t, "mutation M{a}", ops(api.Operation{Mutation: true, Name: "M", Sub: []api.Selection{a}}))
	gives(t, "fragment F on T{a}", api.Doc{Frags: []api.Fragment{{Name: "F", On: "T", Sub: []api.Selection{a}}}})
	gives(t, "fragment F on T{a}{b}fragment G on U{b a}mutation M{a},query{a}# {", api.Doc{
		Ops:   []api.Operation{query(b), {Mutation: true, Name: "M", Sub: []api.Selection{a}}, query(a)},
		Frags: []api.Fragment{{Name: "F", On: "T", Sub: []api.Selection{a}}, {Name: "G", On: "U", Sub: []api.Selection{b, a}}},
	})
	failsAt(t, api.ErrText, "^", " #{a}^", "^}", "^a", "^on", "^1", `^"a"`, "^(", "^...", "^@a{a}", "^subscription{a}", "^Query{a}", "^type A{b:C}",
		"{a}^}", "{a}^a", "{a}^...F", "{a}{b}^:", "^($a:B){a}", "^a{a}", "^a($a:B){a}")
}

// P6.1: what a query, a mutation or a fragment needs.
func TestHeads(t *testing.T) {
	failsAt(t, api.ErrText, "query^", "query Q^", "query Q^ R{a}", "query^}", "query^ 1{a}", "query^@d{a}", "query Q^@d{a}", "query Q^:R{a}", "query($a:B)^", "query($a:B)^ Q{a}", "query($a:B)^($b:C){a}",
		"mutation^", "mutation M^", "mutation^)", "mutation M^!{a}", "query{a}mutation^", "query Q^ query{a}",
		"fragment^", "fragment^{a}", "fragment^ 1 on T{a}", "fragment^ on on T{a}", "fragment^ on T{a}", "fragment F^", "fragment F^{a}", "fragment F^ T{a}", "fragment F^ On T{a}", "fragment F^ fragment on T{a}",
		"fragment F on^", "fragment F on^{a}", "fragment F on^ 5{a}", "fragment F on^ $T{a}", "fragment F on T^", "fragment F on T^ U{a}", "fragment F on T^@d{a}", "fragment F on T^($a:B){a}", "fragment F on T^}", "{a}fragment F on^")
}

// P6.1: keywords are not reserved.
func TestKeywords(t *testing.T) {
	on := field("on")
	gives(t, "query query{query}", ops(api.Operation{Name: "query", Sub: []api.Selection{field("query")}}))
	gives(t, "mutation mutation{on}", ops(api.Operation{Mutation: true, Name: "mutation", Sub: []api.Selection{on}}))
	gives(t, "query fragment{on}query on{on}", ops(api.Operation{Name: "fragment", Sub: []api.Selection{on}}, api.Operation{Name: "on", Sub: []api.Selection{on}}))
	gives(t, "fragment fragment on on{on}", api.Doc{Frags: []api.Fragment{{Name: "fragment", On: "on", Sub: []api.Selection{on}}}})
	gives(t, "fragment query on fragment{on}", api.Doc{Frags: []api.Fragment{{Name: "query", On: "fragment", Sub: []api.Selection{on}}}})
	gives(t, "{on true,null query mutation fragment}", ops(query(on, field("true"), field("null"), field("query"), field("mutation"), field("fragment"))))
	gives(t, "{...on on{on}...query...null...true @on}", ops(query(inline("on", nil, on), spread("query"), spread("null"), spread("true", directive("on")))))
	x := field("null")
	x.Alias, x.Args = "on", []api.Arg{{Name: "true", V: enum("on")}, {Name: "null", V: vari("false")}, {Name: "on", V: object([]string{"true", "null"}, enum("query"), vari("on"))}}
	gives(t, "{on:null(true:on,null:$false,on:{true:query,null:$on})}", ops(query(x)))
	gives(t, "query($on:on=on,$null:[null]=mutation){on}", ops(api.Operation{Sub: []api.Selection{on}, Vars: []api.VarDef{
		{Name: "on", T: named("on"), Has: true, V: enum("on")},
		{Name: "null", T: api.TypeRef{Of: []api.TypeRef{named("null")}}, Has: true, V: enum("mutation")},
	}}))
}

// P6.1: variables.
func TestVariables(t *testing.T) {
	with := func(l ...api.VarDef) api.Operation {
		return api.Operation{Name: "Q", Vars: l, Sub: []api.Selection{field("a")}}
	}
	b := named("B")
	gives(t, "query Q($a:B){a}", ops(with(api.VarDef{Name: "a", T: b})))
	gives(t, "query Q($a:B $a:B=null,$c:[B!]!={d:[]}$e:B=E){a}", ops(with(
		api.VarDef{Name: "a", T: b},
		api.VarDef{Name: "a", T: b, Has: true},
		api.VarDef{Name: "c", T: api.TypeRef{Bang: true, Of: []api.TypeRef{{Name: "B", Bang: true}}}, Has: true, V: object([]string{"d"}, list())},
		api.VarDef{Name: "e", T: b, Has: true, V: enum("E")},
	)))
	m := with(api.VarDef{Name: "a", T: b})
	m.Mutation, m.Name = true, ""
	gives(t, "mutation($a:B){a}", ops(m))
	failsAt(t, api.ErrText, "query(^){a}", "query(^{a}", "query(^a:B){a}", "query(^", "query($^", "query($^:B){a}", "query($^1:B){a}", "query($^$a:B){a}", "query($a^", "query($a^ B){a}", "query($a^=1){a}", "query($a^){a}",
		"query($a:^", "query($a:^){a}", "query($a:^=1){a}", "query($a:B^", "query($a:B^{a}", "query($a:B^ b:B){a}", "query($a:B^@d){a}", "query($a:B^:C){a}", "query($a:B=^){a}", "query($a:B=^", "query($a:B=^$b){a}", "query($a:B=[1 ^$b]){a}", "query($a:B={c:^$b}){a}", "query($a:B=1^ 2){a}", "query($a:B=1^!){a}", "query($a:B=1^=2){a}")
}

// P6.1: types.
func TestTypes(t *testing.T) {
	of := func(t api.TypeRef) api.TypeRef { return api.TypeRef{Of: []api.TypeRef{t}} }
	bang := func(t api.TypeRef) api.TypeRef { t.Bang = true; return t }
	b := named("B")
	for s, want := range map[string]api.TypeRef{"B": b, "B!": bang(b), "[B]": of(b), "[B!]": of(bang(b)), "[B]!": bang(of(b)), "[B!]!": bang(of(bang(b))), "[[B]!]": of(bang(of(b))), " [ [ [ B ! ] ] ] ! ": bang(of(of(of(bang(b)))))} {
		gives(t, "query($a:"+s+"){c}", ops(api.Operation{Vars: []api.VarDef{{Name: "a", T: want}}, Sub: []api.Selection{field("c")}}))
	}
	failsAt(t, api.ErrText, "query($a:B!^!){a}", "query($a:[^]){a}", "query($a:[B^ C]){a}", "query($a:[B^){a}", "query($a:[B!^!]){a}", "query($a:[B]^]){a}", "query($a:[B]!^!){a}", "query($a:^!){a}", "query($a:^1){a}", `query($a:^"B"){a}`, "query($a:^{B}){a}", "query($a:[^1]){a}", "query($a:[^!]){a}", "query($a:[[B]^){a}", "query($a:[B^", "query($a:[^", "query($a:B!^[C]){a}")
}

// P6.1: selections.
func TestSelections(t *testing.T) {
	a, b := field("a"), field("b")
	aliased := field("b", a)
	aliased.Alias = "a"
	gives(t, "{a b,a}", ops(query(a, b, a)))
	gives(t, "{a{b}}", ops(query(field("a", b))))
	gives(t, "{a{b{a b}a}b}", ops(query(field("a", field("b", a, b), a), b)))
	gives(t, "{a:b{a}}", ops(query(aliased)))
	gives(t, "{...F}", ops(query(spread("F"))))
	gives(t, "{...F...F a}", ops(query(spread("F"), spread("F"), a)))
	gives(t, "{...on T{a}}", ops(query(inline("T", nil, a))))
	gives(t, "{...{a}...{b}}", ops(query(inline("", nil, a), inline("", nil, b))))
	gives(t, "{...on T{...{...F}}b}", ops(query(inline("T", nil, inline("", nil, spread("F"))), b)))
	failsAt(t, api.ErrText, "{^}", "{^", "{a^", "{a{^}}", "{a{b}^", "{^1}", `{^"a"}`, "{^:a}", "{^(a:1)}", "{^@d}", "{^{a}}", "{^$a}", "{a^]", "{a^!}", "{a^)}", "{a^=1}", "{a^&b}", "{a^|b}",
		"{...^}", "{...^", "{...^...}", "{...^1}", "{...^:F}", "{...^(a:1)}", "{...F^{a}}", "{...F^:a}", "{...F^(a:1)}", "{...on^}", "{...on^{a}}", "{...on^@d{a}}", "{...on^", "{...on^ 1{a}}", "{...on T^}", "{...on T^", "{...on T^ U{a}}", "{...on T^(a:1){a}}", "{...on T^:a{a}}", "{...on T{^}}", "{...{^}}", "{...@d^}", "{...@d^ F}", "{...@d^ on T{a}}", "{...^\"F\"}")
}

// P6.1: a name in front of a : is an alias, once.
func TestAliases(t *testing.T) {
	x := func(alias, name string) api.Selection {
		return api.Selection{Kind: api.SField, Alias: alias, Name: name}
	}
	gives(t, "{a:b c:a,b}", ops(query(x("a", "b"), x("c", "a"), field("b"))))
	gives(t, "{a:a}", ops(query(x("a", "a"))))
	failsAt(t, api.ErrText, "{a:^}", "{a:^", "{a:^1}", "{a:^...F}", "{a:^(b:1)}", "{a:^@d}", "{a:^{b}}", "{a:^:b}", "{a:b^:c}", "{a(b:1)^:c}", "{a@d^:c}", "{a{b}^:c}", `{a:^"b"}`)
}

// P6.1: arguments.
func TestArguments(t *testing.T) {
	with := func(l ...api.Arg) api.Doc {
		x := field("a")
		x.Args = l
		return ops(query(x))
	}
	gives(t, "{a(b:1)}", with(api.Arg{Name: "b", V: num(1)}))
	gives(t, "{a(b:1 c:2,b:3)}", with(api.Arg{Name: "b", V: num(1)}, api.Arg{Name: "c", V: num(2)}, api.Arg{Name: "b", V: num(3)}))
	failsAt(t, api.ErrText, "{a(^)}", "{a(^", "{a(^:1)}", "{a(^1)}", "{a(b^)}", "{a(b^ 1)}", "{a(b^=1)}", "{a(b:^)}", "{a(b:^", "{a(b:1^", "{a(b:1^}", "{a(b:1 ^2)}", "{a(b:1)^(c:1)}", "{a(b:1)^)}", "{a(^$b:1)}", "{a(b:1^!)}", "{a(b:1^:2)}", "{a(^{b:1})}", `{a(^"b":1)}`)
}

// P6.1: directives.
func TestDirectives(t *testing.T) {
	one := api.Arg{Name: "if", V: truth(1)}
	x := field("a", field("b"))
	x.Alias, x.Name, x.Args = "a", "c", []api.Arg{{Name: "d", V: num(1)}}
	x.Dirs = []api.Directive{directive("skip", one), directive("e"), directive("skip")}
	gives(t, "{a:c(d:1)@skip(if:true)@e@skip{b}}", ops(query(x)))
	d := []api.Directive{directive("d"), directive("e", api.Arg{Name: "x", V: vari("y")}, api.Arg{Name: "x", V: enum("z")})}
	gives(t, "{...F@d@e(x:$y x:z)}", ops(query(spread("F", d...))))
	gives(t, "{...on T@d@e(x:$y x:z){b}}", ops(query(inline("T", d, field("b")))))
	gives(t, "{...@d@e(x:$y x:z){b}}", ops(query(inline("", d, field("b")))))
	failsAt(t, api.ErrText, "{a@^}", "{a@^", "{a@^{b}}", "{a@^@d}", "{a@^1}", "{a@d^:b}", "{a@d(^)}", "{a@d(if:1)^(if:1)}", "{a@d(if^)}", "{...F@^}", "{...F@d^{b}}", "{...@d^}", "{...@d(^){b}}", "{...on T@d^}", "{...on T@^{b}}", `{a@^"d"}`, "{a@d@^}", "{a{b}^@d}")
}

// values are what a text is, as a value.
func values() map[string]api.Value {
	return map[string]api.Value{
		"1": num(1), "0": num(0), "-0": num(0), "-17": num(-17), "999999999999999999": num(999999999999999999), "-999999999999999999": num(-999999999999999999),
		`""`: text(""), `"a"`: text("a"), `"\"\\\/\n\t"`: text("\"\\/\n\t"), `"null"`: text("null"), `"1"`: text("1"), `"$a"`: text("$a"), "\"\xff\r\"": text("\xff\r"),
		"true": truth(1), "false": truth(0), "null": null(),
		"E": enum("E"), "True": enum("True"), "nulls": enum("nulls"), "_": enum("_"), "fals": enum("fals"), "on": enum("on"),
		"[]": list(), "[ , ]": list(), "[1]": list(num(1)), "[1 2,3]": list(num(1), num(2), num(3)), "[[] [1] [[null]]]": list(list(), list(num(1)), list(list(null()))), `[1"a"b true]`: list(num(1), text("a"), enum("b"), truth(1)),
		"{}": object(nil), "{a:1}": object([]string{"a"}, num(1)), "{b:1,a:2 b:E}": object([]string{"b", "a", "b"}, num(1), num(2), enum("E")),
		"{a:{}b:{c:[{d:false}]}}": object([]string{"a", "b"}, object(nil), object([]string{"c"}, list(object([]string{"d"}, truth(0))))),
	}
}

// variables are values that are not fixed.
func variables() map[string]api.Value {
	return map[string]api.Value{
		"$a": vari("a"), "$ a": vari("a"), "$null": vari("null"), "[$a]": list(vari("a")), "[1,$a$b]": list(num(1), vari("a"), vari("b")), "{a:$a}": object([]string{"a"}, vari("a")), "{a:1 b:[{c:$d}]}": object([]string{"a", "b"}, num(1), list(object([]string{"c"}, vari("d")))),
	}
}

// P6.1: values, as arguments and as defaults.
func TestValues(t *testing.T) {
	argument := func(s string, v api.Value) {
		x := field("a")
		x.Args = []api.Arg{{Name: "b", V: v}}
		gives(t, "{a(b:"+s+")}", ops(query(x)))
	}
	for s, v := range values() {
		argument(s, v)
		gives(t, "query($a:B="+s+"){a}", ops(api.Operation{Vars: []api.VarDef{{Name: "a", T: named("B"), Has: true, V: v}}, Sub: []api.Selection{field("a")}}))
	}
	for s, v := range variables() {
		argument(s, v)
		sign := strings.Index(s, "$")
		fails(t, "query($a:B="+s+"){a}", 11+sign, api.ErrText)
	}
	failsAt(t, api.ErrText, "{a(b:^:1)}", "{a(b:^!)}", "{a(b:^...)}", "{a(b:^])}", "{a(b:^})}", "{a(b:^()}", "{a(b:^@d)}", "{a(b:^=1)}", "{a(b:^|)}", "{a(b:^&)}",
		"{a(b:$^)}", "{a(b:$^1)}", "{a(b:$^$c)}", "{a(b:$^", `{a(b:$^"c")}`, "{a(b:$c^!)}",
		"{a(b:[^)}", "{a(b:[1^)}", "{a(b:[1^}", "{a(b:[^:])}", "{a(b:[^", "{a(b:[1^", "{a(b:[a^:1])}", "{a(b:[1]^])}", "{a(b:[[1]^)}", "{a(b:[$^])}", "{a(b:[^!])}",
		"{a(b:{^)}", "{a(b:{^1})}", "{a(b:{^:1})}", "{a(b:{c^})}", "{a(b:{c^ 1})}", "{a(b:{c:^})}", "{a(b:{c:1^)}", "{a(b:{c:1^])}", "{a(b:{c:1 d^})}", "{a(b:{^$c:1})}", "{a(b:{^{}})}", `{a(b:{^"c":1})}`, "{a(b:{c^=1})}", "{a(b:{^", "{a(b:{c:1}^})}", "{a(b:{^[]})}")
}

// P6.1: the errors of lex.Tokens are reported, whatever is before them.
func TestLexErrors(t *testing.T) {
	failsAt(t, api.ErrText, "^?", "{a ^?", "} ^?", "{a} 0^1", "{a(b:-^)}", `{{{"^`)
	failsAt(t, api.ErrLong, "} ^"+many("a", 33), `1 ^"`+many("a", 201)+`"`)
	failsAt(t, api.ErrArg, "} ^"+many("1", 19))
	fails(t, many("}", api.MaxText+1), 0, api.ErrLong)
	fails(t, "{a}"+many(" ", api.MaxText-2), 0, api.ErrLong)
	valid(t, "{a}"+many(" ", api.MaxText-3))
	fails(t, many(" ", api.MaxText), api.MaxText, api.ErrText)
}
