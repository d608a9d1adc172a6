package coerce_test

import (
	"slices"
	"strconv"

	"columbary/api"
)

// plain coerces as the chapter's words say it, sentence by sentence, without regard to speed or depth.
type plain []api.TypeDef

func (p plain) find(n string, kind byte) *api.TypeDef {
	for i := range p {
		if p[i].Name == n && p[i].Kind == kind {
			return &p[i]
		}
	}
	return nil
}

func first(v api.Value, n string) *api.Value {
	i := slices.Index(v.K, n)
	if v.Kind != api.VObject || i < 0 {
		return nil
	}
	return &v.L[i]
}

// literal returns nil without an error for a variable that has nothing. For a client's value vars is nil.
func (p plain) literal(t api.TypeRef, v api.Value, vars *api.Value) (*api.Value, api.Errno) {
	if v.Kind == api.VVar && vars != nil {
		x := first(*vars, v.S)
		if x != nil && x.Kind == api.VNull && t.Bang {
			return nil, api.ErrNull
		}
		return x, api.OK
	}
	if v.Kind == api.VVar {
		return nil, api.ErrType
	}
	if v.Kind == api.VNull && t.Bang {
		return nil, api.ErrNull
	}
	if v.Kind == api.VNull {
		return &v, api.OK
	}
	if len(t.Of) == 1 {
		return p.elements(t.Of[0], v, vars)
	}
	return p.single(t.Name, v, vars)
}

func (p plain) elements(t api.TypeRef, v api.Value, vars *api.Value) (*api.Value, api.Errno) {
	if v.Kind != api.VList {
		x, e := p.literal(t, v, vars)
		if e != api.OK {
			return nil, e
		}
		return &api.Value{Kind: api.VList, L: []api.Value{*x}}, api.OK
	}
	out := api.Value{Kind: api.VList}
	for _, x := range v.L {
		y, e := p.literal(t, x, vars)
		if y == nil && e == api.OK && t.Bang {
			e = api.ErrNull
		}
		if e != api.OK {
			return nil, e
		}
		if y == nil {
			y = &api.Value{}
		}
		out.L = append(out.L, *y)
	}
	return &out, api.OK
}

func (p plain) single(n string, v api.Value, vars *api.Value) (*api.Value, api.Errno) {
	client := vars == nil
	enum, input := p.find(n, api.TEnum), p.find(n, api.TInput)
	switch {
	case n == "Int" && v.Kind == api.VInt && v.N == int64(int32(v.N)):
		return &v, api.OK
	case n == "String" && v.Kind == api.VText, n == "ID" && v.Kind == api.VText:
		return &v, api.OK
	case n == "Boolean" && v.Kind == api.VBool:
		return &v, api.OK
	case n == "ID" && v.Kind == api.VInt:
		return &api.Value{Kind: api.VText, S: strconv.Itoa(int(v.N))}, api.OK
	case enum != nil && (v.Kind == api.VEnum || client && v.Kind == api.VText) && slices.Contains(enum.Names, v.S):
		return &api.Value{Kind: api.VEnum, S: v.S}, api.OK
	case input != nil && v.Kind == api.VObject:
		x, _, e := p.fields(input.Fields, v, vars)
		return x, e
	}
	return nil, api.ErrType
}

func (p plain) fields(l []api.FieldDef, v api.Value, vars *api.Value) (*api.Value, string, api.Errno) {
	for i, n := range v.K {
		if slices.Contains(v.K[:i], n) {
			return nil, n, api.ErrTwice
		}
		if !slices.ContainsFunc(l, func(f api.FieldDef) bool { return f.Name == n }) {
			return nil, n, api.ErrNone
		}
	}
	out := &api.Value{Kind: api.VObject}
	for _, f := range l {
		x, e := p.member(f, first(v, f.Name), vars)
		if e != api.OK {
			return nil, f.Name, e
		}
		if x != nil {
			out.K, out.L = append(out.K, f.Name), append(out.L, *x)
		}
	}
	return out, "", api.OK
}

func (p plain) member(f api.FieldDef, given, vars *api.Value) (*api.Value, api.Errno) {
	if given != nil {
		x, e := p.literal(f.T, *given, vars)
		if x != nil || e != api.OK {
			return x, e
		}
	}
	if f.Has && f.V.Kind != api.VVar {
		return p.literal(f.T, f.V, &api.Value{})
	}
	if f.T.Bang {
		return nil, api.ErrNull
	}
	return nil, api.OK
}

func (p plain) args(f api.FieldDef, l []api.Arg, vars api.Value) (*api.Value, string, api.Errno) {
	v := api.Value{Kind: api.VObject}
	for _, a := range l {
		v.K, v.L = append(v.K, a.Name), append(v.L, a.V)
	}
	return p.fields(f.Args, v, &vars)
}

func (p plain) vars(l []api.VarDef, given api.Value) (*api.Value, string, api.Errno) {
	out := &api.Value{Kind: api.VObject}
	for _, d := range l {
		var x *api.Value
		e := api.OK
		if y := first(given, d.Name); y != nil {
			x, e = p.literal(d.T, *y, nil)
		} else if d.Has && d.V.Kind != api.VVar {
			x, e = p.literal(d.T, d.V, &api.Value{})
		} else if d.T.Bang && !d.Has {
			e = api.ErrNull
		}
		if e != api.OK {
			return nil, d.Name, e
		}
		if x != nil {
			out.K, out.L = append(out.K, d.Name), append(out.L, *x)
		}
	}
	return out, "", api.OK
}
