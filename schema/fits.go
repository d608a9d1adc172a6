package schema

import (
	"math"
	"slices"

	"columbary/api"
)

// pair is a value, and the type that it must fit.
type pair struct {
	t api.TypeRef
	v api.Value
}

// Fits keeps by itself what must still fit: types and values may be nested deeper than calls can be.
func (s *Schema) Fits(t api.TypeRef, v api.Value) bool {
	left := []pair{{t, v}}
	for len(left) > 0 {
		next := left[len(left)-1]
		inner, ok := s.outside(next)
		if !ok {
			return false
		}
		left = append(left[:len(left)-1], inner...)
	}
	return true
}

// outside tells whether a value fits but for what is in it, which must fit, too.
func (s *Schema) outside(p pair) ([]pair, bool) {
	if p.v.Kind == api.VNull {
		return nil, !p.t.Bang
	}
	if len(p.t.Of) > 0 {
		return elements(p.t.Of[0], p.v), true
	}
	t, _ := s.find(p.t.Name)
	switch t.Kind {
	case api.TEnum:
		return nil, p.v.Kind == api.VEnum && slices.Contains(t.Names, p.v.S)
	case api.TInput:
		return members(t, p.v)
	}
	return nil, s.Scalar(p.t.Name) && fitsScalar(p.t.Name, p.v)
}

// elements of a value that is no list are that value alone.
func elements(inner api.TypeRef, v api.Value) []pair {
	if v.Kind != api.VList {
		return []pair{{inner, v}}
	}
	var l []pair
	for _, x := range v.L {
		l = append(l, pair{inner, x})
	}
	return l
}

func members(t api.TypeDef, v api.Value) ([]pair, bool) {
	if v.Kind != api.VObject {
		return nil, false
	}
	var l []pair
	left := byName(t.Fields)
	for i := range min(len(v.K), len(v.L)) {
		f, ok := left[v.K[i]]
		if !ok {
			return nil, false
		}
		delete(left, f.Name)
		l = append(l, pair{f.T, v.L[i]})
	}
	for _, f := range left {
		if f.T.Bang && !f.Has {
			return nil, false
		}
	}
	return l, true
}

func byName(l []api.FieldDef) map[string]api.FieldDef {
	m := map[string]api.FieldDef{}
	for _, f := range l {
		m[f.Name] = f
	}
	return m
}

func fitsScalar(name string, v api.Value) bool {
	switch name {
	case "Int":
		return v.Kind == api.VInt && v.N >= math.MinInt32 && v.N <= math.MaxInt32
	case "String":
		return v.Kind == api.VText
	case "Boolean":
		return v.Kind == api.VBool
	}
	return v.Kind == api.VText || v.Kind == api.VInt // ID
}
