package schema_test

import (
	"fmt"
	"strings"
	"testing"

	"columbary/api"
	"columbary/schema"
	"columbary/sdl"
)

// rest makes a schema of types that lack a Query.
const rest = " type Query { q(id: ID!): Q } type Q { i: Int }"

// more has a type of each kind, too.
const more = " interface I { i: Int } union U = Q enum E { V W } input N { i: Int }" + rest

// mutations are types named Mutation, of each kind.
var mutations = []string{" type Mutation { deleteQ(id: ID!): Q }", " interface Mutation { deleteQ: Q }", " union Mutation = Q", " enum Mutation { V }", " input Mutation { i: Int }"}

func types(t *testing.T, s string) []api.TypeDef {
	t.Helper()
	l, at, e := sdl.Types(s)
	if e != api.OK {
		t.Fatalf("Types(%q): %d at %d", s, e, at)
	}
	return l
}

func built(t *testing.T, s string) *schema.Schema {
	t.Helper()
	x, name, e := schema.Build(types(t, s))
	if x == nil || name != "" || e != api.OK {
		t.Fatalf("Build(%s) = %v, %q, %d", s, x, name, e)
	}
	return x
}

func builds(t *testing.T, texts ...string) {
	t.Helper()
	for _, s := range texts {
		if x, name, e := schema.Build(types(t, s)); x == nil || name != "" || e != api.OK {
			t.Errorf("Build(%s) = %v, %q, %d", s, x != nil, name, e)
		}
	}
}

func refuses(t *testing.T, e api.Errno, name string, texts ...string) {
	t.Helper()
	for _, s := range texts {
		if x, n, f := schema.Build(types(t, s)); x != nil || n != name || f != e {
			t.Errorf("Build(%s) = %v, %q, %d; want %q, %d", s, x != nil, n, f, name, e)
		}
	}
}

// kinds declare a type of each kind.
func kinds(name string) []string {
	return []string{"type " + name + " { i: Int } ", "interface " + name + " { i: Int } ", "union " + name + " = Q ", "enum " + name + " { V } ", "input " + name + " { i: Int } "}
}

// The chapter's example, and P9.1: what no rule refuses.
func TestBuild(t *testing.T) {
	builds(t, "type A { b: Int } type Query { a(id: ID!): A all: [A!]! }", rest, more, more+mutations[0], more+mutations[2], more+mutations[3], more+mutations[4])
	builds(t, "type Query { a: [A!]! } union A = A1 | A2 type A1 implements A3 & A4 { x: A y: [[A3]!]! z: E } type A2 { x: A1! } interface A4 { z: E } interface A3 { y: [[A3]!]! } enum E { x y } input X { z: [E!]! = x y: ID }")
	if x, name, e := schema.Build(nil); x != nil || name != "Query" || e != api.ErrNone {
		t.Errorf("Build(nil) = %v, %q, %d", x, name, e)
	}
}

// P9.1: the names of the types, type by type, before everything else.
func TestTypeNames(t *testing.T) {
	for _, x := range kinds("A") {
		builds(t, x+rest, x+kinds("AA")[0]+kinds("a")[0]+rest)
		for _, y := range kinds("A") {
			refuses(t, api.ErrTwice, "A", x+y+rest, x+rest+y, x+y, x+y+"type __B { i: Int }"+rest)
			refuses(t, api.ErrArg, "__B", x+"type __B { i: Int }"+y+rest)
		}
	}
	for _, n := range schema.Scalars {
		for _, x := range kinds(n) {
			refuses(t, api.ErrTwice, n, x+rest, rest+x, x+x, x+"type __A { i: Int } type Q { i: Int }"+rest)
		}
	}
	for _, n := range []string{"__", "__A", "___", "__typename"} {
		for _, x := range kinds(n) {
			refuses(t, api.ErrArg, n, x+rest, rest+x, x+x+rest, x+"type Int { i: Int }", x+"type A { a: None a: None }")
		}
	}
	for _, n := range []string{"_", "_A", "A__", "a"} {
		for _, x := range kinds(n) {
			builds(t, x+rest)
		}
	}
	refuses(t, api.ErrTwice, "A", "type A { __a: None a: Int a: Int } type A { i: Int }"+rest, "union A = None enum A { V }")
	refuses(t, api.ErrTwice, "B", "type A { i: Int } type B { i: Int } type B { i: Int } type A { i: Int }"+rest)
}

// P9.1, 1: the names of fields.
func TestFieldNames(t *testing.T) {
	for _, kind := range []string{"type", "interface", "input"} {
		of := func(fields string) string { return kind + " A { " + fields + " }" + more }
		builds(t, of("a: Int _a: Int a__: Int A: Int aa: Int"))
		refuses(t, api.ErrTwice, "a", of("a: Int a: Int"), of("b: Int a: Int c: Int a: String"), of("a: Int a: Int __b: Int b: Int b: Int"))
		refuses(t, api.ErrArg, "__a", of("__a: Int"), of("b: Int __a: Int b: Int"), of("__a: Int __a: Int"))
		refuses(t, api.ErrTwice, "b", of("a: None b: Int b: Int"), of("a: Int b: Int b: Int a: Int"))
	}
	refuses(t, api.ErrNone, "None", "type B { a: None } type A { a: Int a: Int }"+rest)
	refuses(t, api.ErrTwice, "a", "type A { a: Int a: Int } type B { a: None }")
}

// P9.1, 1: the names of interfaces, of members and of values.
func TestOtherNames(t *testing.T) {
	const third = " type Z { i: Int } interface J { i: Int }" + more
	for _, x := range [][3]string{{"union A = ", " | ", ""}, {"enum A { ", " ", " }"}, {"type A implements ", " & ", " { i: Int }"}} {
		a, b := "Q", "Z"
		if x[1] == " & " {
			a, b = "I", "J"
		}
		of := func(names ...string) string { return x[0] + strings.Join(names, x[1]) + x[2] + third }
		builds(t, of(a), of(a, b), of(b, a))
		refuses(t, api.ErrTwice, b, of(b, b), of(a, b, b, a), of(b, a, b, "__Z"), of("None", b, b))
		refuses(t, api.ErrArg, "__Z", of("__Z"), of("__Z", "__Z"), of(a, "__Z", a), of("None", "__Z"))
		refuses(t, api.ErrTwice, "None", of("None", "None"))
	}
	builds(t, "enum A { a A I Int Query type _ }"+rest)
	refuses(t, api.ErrTwice, "a", "type A implements I & I & __I { a: Int a: Int }"+more)
	refuses(t, api.ErrTwice, "I", "type A implements I & I { i: None }"+more)
	builds(t, "type A implements i { i: Int } interface i { i: Int }"+rest)
}

// P9.1, 2: the types of fields.
func TestFieldTypes(t *testing.T) {
	for _, around := range []string{"%s", "%s!", "[%s]", "[%s!]!", "[[%s]!]"} {
		for _, kind := range []string{"type", "interface", "input"} {
			one := func(base string) string { return fmt.Sprintf(kind+" A { a: "+around+" }"+more, base) }
			two := func(base string) string { return fmt.Sprintf(kind+" A { a: Int b: "+around+" c: None }"+more, base) }
			refuses(t, api.ErrNone, "None", one("None"), two("None"))
			refuses(t, api.ErrNone, "Mutation", one("Mutation"), two("Mutation"))
			refuses(t, api.ErrNone, "__typename", one("__typename"))
			refuses(t, api.ErrType, "Query", one("Query"), two("Query"))
			for _, m := range mutations {
				refuses(t, api.ErrType, "Mutation", one("Mutation")+m, two("Mutation")+m)
			}
			for _, base := range []string{"Boolean", "ID", "Int", "String", "E"} {
				builds(t, one(base))
				refuses(t, api.ErrNone, "None", two(base))
			}
			for _, base := range []string{"Q", "I", "U", "A", "N"} {
				if kind == "input" || base == "N" {
					refuses(t, api.ErrType, base, one(base), two(base))
				} else {
					builds(t, one(base))
				}
			}
		}
	}
}

// P9.1, 2: defaults of an input's fields, and of arguments.
func TestDefaults(t *testing.T) {
	for s, fits := range map[string]bool{
		"Int = 1": true, "Int = null": true, "Int! = 1": true, "Int! = null": false, "Int = 2147483648": false, `Int = "1"`: false, "Int = true": false, "Int = V": false, "Int = {}": false, "Int = []": false, "Int = [1]": false,
		`String = ""`: true, "String = 1": false, "Boolean = true": true, "Boolean = 1": false, "Boolean = V": false, `ID = "a"`: true, "ID = 1": true, "ID = V": false,
		"E = V": true, "E = X": false, `E = "V"`: false, "E! = W": true, "E! = null": false, "E = {V: 1}": false,
		"[Int] = 1": true, "[Int] = [1, null]": true, "[Int!] = [1, null]": false, "[Int!] = null": true, "[Int]! = null": false, "[[E]] = V": true, "[[E]] = [[V] W null]": true, "[[E]] = [[[V]]]": false, "[[E!]]! = [X]": false,
	} {
		for _, form := range []string{"input A { a: %s b: Int }", "input A { b: Int = 1 a: %s }", "type Mutation { a(b: Int = 1 a: %s): Q }", "type A { a(a: %s): Q }", "interface A { a(b: N a: %s c: Int): Q }"} {
			text := fmt.Sprintf(form, s) + more
			switch {
			case !fits:
				refuses(t, api.ErrType, "a", text)
			case form[:5] == "input":
				builds(t, text)
			default: // these fields may not have arguments, but this is found out last
				refuses(t, api.ErrForm, "a", text)
			}
		}
	}
	refuses(t, api.ErrNone, "None", "input A { a: None = 1 }"+more, "type A { a(b: None = 1): Int }"+more)
	refuses(t, api.ErrType, "Q", "input A { a: Q = 1 }"+more, "type A { a(b: Q = null): Int }"+more)
	refuses(t, api.ErrType, "a", "input A { a: Int = V b: None }"+more)
	refuses(t, api.ErrNone, "None", "input A { b: None a: Int = V }"+more)
	builds(t, "input A { a: E = V } enum E { V }"+rest)
}

// P9.1, 2: arguments.
func TestArguments(t *testing.T) {
	for _, kind := range []string{"type", "interface"} {
		with := func(args, typ, behind string) string {
			return kind + " A { a(" + args + "): " + typ + behind + " }" + more
		}
		of := func(args string) string { return with(args, "Int", " b: None") }
		refuses(t, api.ErrTwice, "b", of("b: Int b: Int"), of("a: None b: Int b: None"), of("b: Int b: Int __a: Int"))
		refuses(t, api.ErrArg, "__b", of("__b: Int"), of("a: Int __b: Int a: Int"), of("__b: Int __b: None"))
		refuses(t, api.ErrNone, "Absent", of("b: Absent"), of("b: [Absent!]!"), of("b: Int c: [N] d: Absent = 1 e: Q"))
		for _, base := range []string{"Q", "I", "U", "A", "Query"} {
			refuses(t, api.ErrType, base, of("b: "+base), of("b: ["+base+"!] c: Absent"), of("b: N c: "+base+" = V"))
		}
		refuses(t, api.ErrNone, "Mutation", of("b: Mutation"))
		for _, m := range mutations[:4] {
			refuses(t, api.ErrType, "Mutation", of("b: Mutation")+m, of("b: [Mutation!] = V")+m)
		}
		refuses(t, api.ErrForm, "a", with("b: Mutation", "Int", "")+mutations[4], with("b: [Mutation]!", "Int", "")+mutations[4])
		refuses(t, api.ErrType, "b", of("b: Mutation = null")+mutations[4])
		for _, v := range []string{"{}", "{i: 1}", "null", "1", "[]"} {
			refuses(t, api.ErrType, "b", of("b: N = "+v), of("b: [N!] = "+v+" c: Absent"), of("a: N! b: N! = "+v))
		}
		for _, args := range []string{"b: N", "b: [N!]!", "b: Int", "b: [E] = [V]", "id: ID!", "a: Int = 1 i: N A: E!"} {
			refuses(t, api.ErrForm, "a", with(args, "Int", ""))
			refuses(t, api.ErrNone, "None", of(args), with(args, "None", ""))
		}
		refuses(t, api.ErrNone, "None", with("b: Int b: Int", "None", ""), with("b: Q", "None", ""))
		refuses(t, api.ErrNone, "None", kind+" A { c: None a(b: Int b: Int): Int }"+more)
	}
	refuses(t, api.ErrTwice, "b", "type Query { q(b: Int b: Int): Q } type Q { i: Int }")
	refuses(t, api.ErrType, "Q", "type Query { q(id: Q): Q } type Q { i: Int }")
}

// P9.1, 3: the interfaces of an object.
func TestInterfaces(t *testing.T) {
	const k = "interface K { i: Int j: [Int!] }"
	of := func(names, fields string) string { return "type A implements " + names + " { " + fields + " } " }
	builds(t, of("K", "j: [Int!] k: Int i: Int")+k+more, k+of("K", "i: Int j: [Int!]")+more, k+of("K & J", "i: Int j: [Int!]")+"interface J { j: [Int!] }"+more)
	builds(t, "type Query implements J { i: [A!]! a(id: ID!): A } type A { i: Int } interface J { i: [A!]! }")
	for _, n := range []string{"None", "Int", "ID", "String", "Boolean", "Mutation"} {
		refuses(t, api.ErrNone, n, of(n, "i: Int")+more, of("I & "+n+" & Q", "i: Int")+more)
	}
	for _, n := range []string{"Q", "U", "E", "N", "A", "Query"} {
		refuses(t, api.ErrType, n, of(n, "i: Int")+more, of("I & "+n+" & None", "i: Int")+more)
	}
	for _, m := range mutations {
		refuses(t, api.ErrType, "Mutation", of("Mutation", "i: Int")+more+m, of("I & Mutation & None", "deleteQ: Q i: Int")+more+m)
	}
	for _, fields := range []string{"i: Int", "j: [Int!]", "k: Int", "i: Int! j: [Int!]", "i: ID j: [Int!]", "i: [Int] j: [Int!]", "i: Int j: [Int]", "i: Int j: [Int!]!", "i: Int j: Int", "i: Int j: [ID!]", "i: Int j: [[Int!]]", "i: Int J: [Int!]"} {
		refuses(t, api.ErrForm, "K", of("K", fields)+k+more, of("J & K & None", fields)+k+"interface J { "+fields+" }"+more)
	}
	refuses(t, api.ErrForm, "K", of("K", "i: Int")+"interface K { i: Int i: String }"+more, of("K", "a: Int")+k+"type B { a: None }"+more)
	refuses(t, api.ErrNone, "None", of("K", "a: None")+k+more)
}

// P9.1, 3: the members of a union.
func TestMembers(t *testing.T) {
	builds(t, "union A = Q"+more, "union A = Q | B type B { i: Int }"+more)
	for _, n := range []string{"None", "Int", "ID", "String", "Boolean", "Mutation"} {
		refuses(t, api.ErrNone, n, "union A = "+n+more, "union A = Q | "+n+" | I"+more)
	}
	for _, n := range []string{"I", "U", "E", "N", "A", "Query"} {
		refuses(t, api.ErrType, n, "union A = "+n+more, "union A = Q | "+n+" | None"+more)
	}
	for _, m := range mutations {
		refuses(t, api.ErrType, "Mutation", "union A = Mutation"+more+m, "union A = Q | Mutation | None"+more+m)
	}
}

// P9.1: a Query, which is missed after all that is of single types.
func TestQueryMissing(t *testing.T) {
	const a = "type A { i: Int } "
	for _, s := range []string{"", "interface Query { all: [A!]! }", "union Query = A", "enum Query { V }", "input Query { i: Int }", "type query { a(id: ID!): A }", "type Mutation { bad: Int }", "type B { i(a: Int): Int }"} {
		refuses(t, api.ErrNone, "Query", a+s, s+" "+a)
		refuses(t, api.ErrNone, "None", a+s+" type C { i: None }", s+" "+a+"union C = None")
		refuses(t, api.ErrType, "A", a+s+" type C implements A { i: Int }")
	}
	refuses(t, api.ErrType, "Query", a+"type B { i: Query } enum Query { V }")
}

// P9.1: the fields of Query.
func TestQuery(t *testing.T) {
	const a = " type A { i: Int } interface I { i: Int } union U = A enum E { V } input N { i: Int } union Mutation = A"
	of := func(fields, n string) string {
		return "type Query { " + strings.ReplaceAll(fields, "%", n) + " }" + a
	}
	for _, n := range []string{"A", "I", "U"} {
		builds(t, of("a(id: ID!): %", n), of("a: [%!]!", n), of("a: [%!]! b(id: ID!): % c(id: ID!): A d: [I!]!", n))
		for _, bad := range []string{
			"a: %", "a: %!", "a: [%]", "a: [%!]", "a: [%]!", "a: [[%!]!]!", "a: [[%]!]!", "a(id: ID!): %!", "a(id: ID!): [%]", "a(id: ID!): [%!]!", "a(id: ID): %", "a(id: [ID!]!): %", "a(id: [ID]!): %", "a(id: Int!): %", "a(id: String!): %", "a(ID: ID!): %", "a(i: ID!): %",
			"a(id: ID! = 1): %", `a(id: ID! = "a"): %`, "a(id: ID!, b: Int): %", "a(b: Int, id: ID!): %", "a(b: Int): [%!]!", "a(id: ID!, b: ID!): %", "a(id: N!): %",
		} {
			refuses(t, api.ErrForm, "a", of(bad, n), of("b: [A!]! "+bad+" c: Int", n))
		}
	}
	for _, n := range []string{"Int", "ID", "String", "Boolean", "E"} {
		refuses(t, api.ErrForm, "a", of("a(id: ID!): %", n), of("a: [%!]!", n), of("a: %", n))
	}
	refuses(t, api.ErrType, "Mutation", of("a: [%!]!", "Mutation"))
}

// P9.1: the fields of Mutation.
func TestMutation(t *testing.T) {
	const a = " type A { i: Int j: [ID!] k: A l: [[I]!]! m: U n: E } input S { i: Int! } input M { j: [ID]! k: ID l: [[ID]] m: ID! = 1 n: E = V }" + more
	of := func(fields string) string { return "type Mutation { " + fields + " }" + a }
	builds(t, of("createA(id: ID!, input: S!): A"), of("updateA(id: ID!, input: M!): A"), of("deleteA(id: ID!): A"), of("deleteQ(id: ID!): Q createQ(id: ID!, input: N!): Q updateA(id: ID!, input: S!): A createA(id: ID!, input: M!): A"))
	bad := func(name, s string) {
		refuses(t, api.ErrForm, name, of(name+s), of("deleteQ(id: ID!): Q "+name+s+" delete: Int"))
	}
	for _, verb := range []string{"createA", "updateA"} {
		for _, args := range []string{"", "(id: ID!)", "(input: S!)", "(id: ID, input: S!)", "(id: [ID!]!, input: S!)", "(id: Int!, input: S!)", "(ID: ID!, input: S!)", "(id: ID! = 1, input: S!)", "(id: ID!, input: S)", "(id: ID!, input: [S!]!)", "(id: ID!, input: [S]!)", "(id: ID!, Input: S!)", "(id: ID!, input: Int!)", "(id: ID!, input: E!)", "(id: ID!, input: S!, a: Int)", "(a: Int, id: ID!, input: S!)", "(id: ID!, a: Int)"} {
			bad(verb, args+": A")
		}
		for _, x := range []string{"p: Int", "i: [Int]", "i: ID", "i: String", "j: ID", "j: [[ID]]", "j: [Int]", "k: [ID]", "k: Int", "k: String", "l: ID", "l: [ID]", "l: [[Int]]", "m: Int", "m: E", "n: ID", "n: String", "n: [E]", "i: Int o: Int", "i: Int k: E n: E"} {
			refuses(t, api.ErrForm, verb, "input X { "+x+" }"+of(verb+"(id: ID!, input: X!): A"))
		}
	}
	for _, args := range []string{"", "(id: ID)", "(ID: ID!)", "(id: [ID!]!)", "(id: ID! = 1)", "(id: ID!, input: S!)", "(input: S!)", "(id: String!)", "(id: ID!, i: ID!)"} {
		bad("deleteA", args+": A")
	}
	for _, typ := range []string{"A!", "[A]", "[A!]!", "Q", "I", "U", "ID", "E"} {
		bad("deleteA", "(id: ID!): "+typ)
		bad("createA", "(id: ID!, input: S!): "+typ)
	}
	for name, typ := range map[string]string{"delete": "A", "deletea": "A", "DeleteA": "A", "removeA": "A", "A": "A", "deleteAA": "A", "deleteI": "I", "deleteU": "U", "deleteE": "E", "deleteInt": "Int", "deleteNone": "A", "deleteQuery": "A", "deleteMutation": "A", "deletedeleteA": "A", "xdeleteA": "A", "deleteN": "A", "createN": "A", "deleteS": "A"} {
		refuses(t, api.ErrForm, name, of(name+"(id: ID!): "+typ), of(name+"(id: ID!, input: S!): "+typ))
	}
	refuses(t, api.ErrForm, "deleteQ", more+mutations[1])
	refuses(t, api.ErrForm, "deleteQ", "interface Mutation { deleteQ(id: ID!): Q }"+more)
	refuses(t, api.ErrForm, "x", "interface Mutation { x: Int deleteQ(id: ID!): Q }"+more)
}

// P9.1: no field of another type has arguments; and the order of the last pass.
func TestUses(t *testing.T) {
	for _, kind := range []string{"type", "interface"} {
		for _, args := range []string{"(id: ID!)", "(a: Int)", "(a: N, b: [E!] = V)"} {
			refuses(t, api.ErrForm, "b", kind+" A { a: Int b"+args+": Q c(i: Int): Int }"+more, rest+kind+" A { a: Int b"+args+": Q } input N { i: Int } enum E { V }")
		}
	}
	const a, q, m, i = "type A { a(a: Int): Int } ", "type Query { q: Int } ", "type Mutation { m: Int } ", "interface I { i(a: Int): Int } "
	refuses(t, api.ErrForm, "a", a+q+m+i, a+i+m+q)
	refuses(t, api.ErrForm, "q", q+a+m+i, "enum E { V } "+q+i+m+a)
	refuses(t, api.ErrForm, "m", m+a+q+i, m+q+i)
	refuses(t, api.ErrForm, "i", i+m+q, "union U = A "+i+q+a)
}
