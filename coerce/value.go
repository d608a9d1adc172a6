package coerce

import (
	"strconv"

	"columbary/api"
	"columbary/schema"
)

// coercer coerces what a document has, with variables, or, as client, what a client gave.
type coercer struct {
	s      *schema.Schema
	client bool
	vars   api.Value
	index  map[string]api.Value // of vars, from the first use of a variable on
}

// list is one of which some elements are still to be coerced.
type list struct {
	of       api.TypeRef
	from, to []api.Value
}

// given is false for a variable without a value.
func (c *coercer) given(t api.TypeRef, v api.Value) (api.Value, bool, api.Errno) {
	if c.isVariable(v) {
		if _, ok := c.lookup(v.S); !ok {
			return api.Value{}, false, api.OK
		}
	}
	x, e := c.value(t, v)
	return x, e == api.OK, e
}

// value keeps by itself which lists are open: types and values may be nested deeper than calls can be.
func (c *coercer) value(t api.TypeRef, v api.Value) (api.Value, api.Errno) {
	whole := make([]api.Value, 1)
	open := []list{{of: t, from: []api.Value{v}, to: whole}}
	for len(open) > 0 {
		last := &open[len(open)-1]
		if len(last.from) == 0 {
			open = open[:len(open)-1]
			continue
		}
		x, inner, e := c.outside(last.of, last.from[0])
		if e != api.OK {
			return api.Value{}, e
		}
		last.to[0] = x
		last.from, last.to = last.from[1:], last.to[1:]
		open = append(open, inner)
	}
	return whole[0], api.OK
}

// outside coerces a value but for the elements of a list, which it returns, too. A variable without a value is null.
func (c *coercer) outside(t api.TypeRef, v api.Value) (api.Value, list, api.Errno) {
	variable := c.isVariable(v)
	if variable {
		v, _ = c.lookup(v.S)
	}
	switch {
	case v.Kind == api.VNull:
		return v, list{}, absent(t)
	case variable: // what a variable has was coerced to the variable's own type
		return v, list{}, api.OK
	case len(t.Of) > 0:
		l := elements(t.Of[0], v)
		return api.Value{Kind: api.VList, L: l.to}, l, api.OK
	}
	x, e := c.named(t.Name, v)
	return x, list{}, e
}

func absent(t api.TypeRef) api.Errno {
	if t.Bang {
		return api.ErrNull
	}
	return api.OK
}

// elements of a value that is no list are that value alone.
func elements(t api.TypeRef, v api.Value) list {
	from := v.L
	if v.Kind != api.VList {
		from = []api.Value{v}
	}
	return list{of: t, from: from, to: make([]api.Value, len(from))}
}

func (c *coercer) named(name string, v api.Value) (api.Value, api.Errno) {
	switch {
	case c.s.Input(name):
		return c.input(name, v)
	case c.client && v.Kind == api.VText && c.s.Enum(name):
		v = api.Value{Kind: api.VEnum, S: v.S}
	}
	switch {
	case !c.s.Fits(api.TypeRef{Name: name}, v):
		return api.Value{}, api.ErrType
	case name == "ID" && v.Kind == api.VInt:
		return api.Value{Kind: api.VText, S: strconv.FormatInt(v.N, 10)}, api.OK
	}
	return v, api.OK
}

func (c *coercer) input(name string, v api.Value) (api.Value, api.Errno) {
	if v.Kind != api.VObject {
		return api.Value{}, api.ErrType
	}
	t, _ := c.s.Type(name)
	x, _, e := c.fields(t.Fields, v)
	return x, e
}

func (c *coercer) isVariable(v api.Value) bool {
	return v.Kind == api.VVar && !c.client
}

func (c *coercer) lookup(name string) (api.Value, bool) {
	if c.index == nil {
		c.index = byName(c.vars)
	}
	v, ok := c.index[name]
	return v, ok
}
