// Package grammar has only tests: they hold the parsers and the printer against the grammar in the document's words, and against each other.
package grammar

import (
	"slices"

	"columbary/api"
	"columbary/lex"
)

// rule reads from the token i on, and asks next at each index where it may end, till that is true. open is how much is open there.
type rule func(x *reading, i, open int, next func(i int) bool) bool

// reading tries all ways to read a text. The token that none of them gets beyond is the first fault.
type reading struct {
	l    []lex.Token
	far  int
	deep bool
}

func (x *reading) stopped(i int, deep bool) bool {
	if i > x.far {
		x.far, x.deep = i, false
	}
	x.deep = x.deep || deep && i == x.far
	return false
}

func token(is func(t lex.Token) bool) rule {
	return func(x *reading, i, open int, next func(i int) bool) bool {
		if i < len(x.l) && is(x.l[i]) {
			return next(i + 1)
		}
		return x.stopped(i, false)
	}
}

func kind(k byte) rule { return token(func(t lex.Token) bool { return t.Kind == k }) }

func sign(s string) rule {
	return token(func(t lex.Token) bool { return t.Kind == lex.Sign && t.Text == s })
}

func word(s string) rule {
	return token(func(t lex.Token) bool { return t.Kind == lex.Name && t.Text == s })
}

func name(but ...string) rule {
	return token(func(t lex.Token) bool { return t.Kind == lex.Name && !slices.Contains(but, t.Text) })
}

func all(l ...rule) rule {
	if len(l) == 0 {
		return func(x *reading, i, open int, next func(i int) bool) bool { return next(i) }
	}
	return func(x *reading, i, open int, next func(i int) bool) bool {
		return l[0](x, i, open, func(i int) bool { return all(l[1:]...)(x, i, open, next) })
	}
}

func either(l ...rule) rule {
	return func(x *reading, i, open int, next func(i int) bool) bool {
		for _, r := range l {
			if r(x, i, open, next) {
				return true
			}
		}
		return false
	}
}

func maybe(l ...rule) rule { return either(all(l...), all()) }

func noneOrMore(r rule) rule {
	return func(x *reading, i, open int, next func(i int) bool) bool {
		return r(x, i, open, func(i int) bool { return noneOrMore(r)(x, i, open, next) }) || next(i)
	}
}

func oneOrMore(r rule) rule { return all(r, noneOrMore(r)) }

// nest is for what must begin here, and is counted.
func nest(r rule) rule {
	return func(x *reading, i, open int, next func(i int) bool) bool {
		if open == 24 {
			return x.stopped(i, true)
		}
		return r(x, i, open+1, next)
	}
}

// at is for what need not be there: it begins with a sign.
func at(s string, r rule) rule {
	return func(x *reading, i, open int, next func(i int) bool) bool {
		if x.l[i].Kind != lex.Sign || x.l[i].Text != s {
			return x.stopped(i, false)
		}
		return r(x, i, open, next)
	}
}

func later(r *rule) rule {
	return func(x *reading, i, open int, next func(i int) bool) bool { return (*r)(x, i, open, next) }
}

func typ() rule {
	var r rule
	r = nest(all(either(name(), all(sign("["), later(&r), sign("]"))), maybe(sign("!"))))
	return r
}

func value(variable rule) rule {
	var r rule
	list := all(sign("["), noneOrMore(later(&r)), sign("]"))
	object := all(sign("{"), noneOrMore(all(name(), sign(":"), later(&r))), sign("}"))
	r = nest(either(kind(lex.Int), kind(lex.Text), name(), variable, list, object))
	return r
}

func fixed() rule { return value(either()) }

// document is what doc/06-parse.md has under Words.
func document() rule {
	var set rule
	arguments := maybe(sign("("), oneOrMore(all(name(), sign(":"), value(all(sign("$"), name())))), sign(")"))
	directives := noneOrMore(all(sign("@"), name(), arguments))
	selection := either(
		all(maybe(name(), sign(":")), name(), arguments, directives, maybe(at("{", later(&set)))),
		all(sign("..."), word("on"), name(), directives, later(&set)),
		all(sign("..."), name("on"), directives),
		all(sign("..."), directives, later(&set)),
	)
	set = nest(all(sign("{"), oneOrMore(selection), sign("}")))
	variables := maybe(sign("("), oneOrMore(all(sign("$"), name(), sign(":"), typ(), maybe(sign("="), fixed()))), sign(")"))
	operation := either(set, all(either(word("query"), word("mutation")), maybe(name()), variables, set))
	fragment := all(word("fragment"), name("on"), word("on"), name(), set)
	return all(oneOrMore(either(operation, fragment)), kind(lex.End))
}

// types is P7.1.
func types() rule {
	input := all(name(), sign(":"), typ(), maybe(sign("="), fixed()))
	field := all(name(), maybe(sign("("), oneOrMore(input), sign(")")), sign(":"), typ())
	names := func(s string) rule { return all(maybe(sign(s)), name(), noneOrMore(all(sign(s), name()))) }
	list := func(r rule) rule { return all(sign("{"), oneOrMore(r), sign("}")) }
	return all(oneOrMore(either(
		all(word("type"), name(), maybe(word("implements"), names("&")), list(field)),
		all(word("interface"), name(), list(field)),
		all(word("union"), name(), sign("="), names("|")),
		all(word("enum"), name(), list(name("true", "false", "null"))),
		all(word("input"), name(), list(input)),
	)), kind(lex.End))
}

// fault returns the first fault of a text by a rule for all of it.
func fault(r rule, s string) (int, api.Errno) {
	l, at, e := lex.Tokens(s)
	if e != api.OK {
		return at, e
	}
	x := &reading{l: l}
	switch {
	case r(x, 0, 0, func(int) bool { return true }):
		return 0, api.OK
	case x.deep:
		return l[x.far].At, api.ErrDeep
	}
	return l[x.far].At, api.ErrText
}
