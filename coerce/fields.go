package coerce

import "columbary/api"

// member is what a declaration comes to in an object, if it is not omitted.
type member struct {
	name string
	v    api.Value
	ok   bool
	e    api.Errno
}

// object returns the members of its declarations, or the first error, and the name at fault.
func object[T any](l []T, read func(T) member) (api.Value, string, api.Errno) {
	v := api.Value{Kind: api.VObject}
	for _, x := range l {
		m := read(x)
		if m.e != api.OK {
			return api.Value{}, m.name, m.e
		}
		if m.ok {
			v.K = append(v.K, m.name)
			v.L = append(v.L, m.v)
		}
	}
	return v, "", api.OK
}

func (c *coercer) fields(l []api.FieldDef, v api.Value) (api.Value, string, api.Errno) {
	if name, e := check(l, v); e != api.OK {
		return api.Value{}, name, e
	}
	values := byName(v)
	return object(l, func(f api.FieldDef) member {
		return c.field(f, values)
	})
}

// check returns the first name that occurred before, or that is not declared.
func check(l []api.FieldDef, v api.Value) (string, api.Errno) {
	declared, before := map[string]struct{}{}, map[string]struct{}{}
	for _, f := range l {
		declared[f.Name] = struct{}{}
	}
	for _, n := range names(v) {
		if _, twice := before[n]; twice {
			return n, api.ErrTwice
		}
		if _, ok := declared[n]; !ok {
			return n, api.ErrNone
		}
		before[n] = struct{}{}
	}
	return "", api.OK
}

func (c *coercer) field(f api.FieldDef, values map[string]api.Value) member {
	if v, ok := values[f.Name]; ok {
		if x, ok, e := c.given(f.T, v); ok || e != api.OK {
			return member{f.Name, x, ok, e}
		}
	}
	if f.Has && f.V.Kind != api.VVar {
		x, ok, e := Literal(c.s, f.T, f.V, api.Value{})
		return member{f.Name, x, ok, e}
	}
	return member{name: f.Name, e: absent(f.T)}
}

// variable differs from a field in a default that is itself a variable.
func (c *coercer) variable(d api.VarDef, values map[string]api.Value) member {
	_, ok := values[d.Name]
	if !ok && d.Has && d.V.Kind == api.VVar {
		return member{name: d.Name}
	}
	return c.field(api.FieldDef{Name: d.Name, T: d.T, Has: d.Has, V: d.V}, values)
}
