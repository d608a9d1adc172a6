// Package schema is layer 9: schema validation, and lookup of types and fields. See shared/doc/09-schema.md.
package schema

import (
	"slices"
	"strings"

	"columbary/api"
)

var Scalars = [4]string{"Boolean", "ID", "Int", "String"}

// Schema has its types in their order, and where each one is by its name.
type Schema struct {
	types []api.TypeDef
	index map[string]int
}

func Base(t api.TypeRef) string {
	name, _ := unwrapped(t)
	return name
}

// SameType does not call itself: a type may be nested deeper than calls can be.
func SameType(a, b api.TypeRef) bool {
	for sameOutside(a, b) {
		if len(a.Of) == 0 {
			return true
		}
		a, b = a.Of[0], b.Of[0]
	}
	return false
}

func sameOutside(a, b api.TypeRef) bool {
	return a.Name == b.Name && a.Bang == b.Bang && (len(a.Of) == 0) == (len(b.Of) == 0)
}

// unwrapped returns the base of a type, and how many lists are around it.
func unwrapped(t api.TypeRef) (string, int) {
	lists := 0
	for len(t.Of) > 0 {
		t = t.Of[0]
		lists++
	}
	return t.Name, lists
}

func Verb(name string) (string, string) {
	for _, verb := range [...]string{"create", "update", "delete"} {
		if rest, ok := strings.CutPrefix(name, verb); ok {
			return verb, rest
		}
	}
	return "", ""
}

func (s *Schema) Types() []api.TypeDef {
	if s == nil {
		return nil
	}
	return copyTypes(s.types)
}

func (s *Schema) Type(n string) (api.TypeDef, bool) {
	t, ok := s.find(n)
	return copyTypeDef(t), ok
}

// Scalar is false without a schema, where nothing exists.
func (s *Schema) Scalar(n string) bool {
	return s != nil && scalar(n)
}

func (s *Schema) Enum(n string) bool {
	return s.is(n, api.TEnum)
}

func (s *Schema) Input(n string) bool {
	return s.is(n, api.TInput)
}

func (s *Schema) Leaf(n string) bool {
	return s.Scalar(n) || s.Enum(n)
}

func (s *Schema) Composite(n string) bool {
	return !root(n) && (s.is(n, api.TObject) || s.is(n, api.TInterface) || s.is(n, api.TUnion))
}

func (s *Schema) Possible(n string) []string {
	t, _ := s.find(n)
	switch t.Kind {
	case api.TObject:
		return []string{n}
	case api.TUnion:
		return slices.Clone(t.Names)
	case api.TInterface:
		return s.implementing(n)
	}
	return nil
}

func (s *Schema) implementing(n string) []string {
	var l []string
	for _, t := range s.types {
		if t.Kind == api.TObject && slices.Contains(t.Names, n) {
			l = append(l, t.Name)
		}
	}
	return l
}

func (s *Schema) Field(n, field string) (api.FieldDef, bool) {
	if field == "__typename" {
		return s.typename(n)
	}
	t, _ := s.find(n)
	if t.Kind != api.TObject && t.Kind != api.TInterface {
		return api.FieldDef{}, false
	}
	i := slices.IndexFunc(t.Fields, func(f api.FieldDef) bool { return f.Name == field })
	if i < 0 {
		return api.FieldDef{}, false
	}
	return copyFields(t.Fields[i : i+1])[0], true
}

// typename is no field that a type declares: a name that begins with __ can't be declared.
func (s *Schema) typename(n string) (api.FieldDef, bool) {
	if !s.Composite(n) && !(root(n) && s.declares(n)) {
		return api.FieldDef{}, false
	}
	return api.FieldDef{Name: "__typename", T: api.TypeRef{Name: "String", Bang: true}}, true
}

// find returns the schema's own memory, which is not for callers.
func (s *Schema) find(n string) (api.TypeDef, bool) {
	if s == nil {
		return api.TypeDef{}, false
	}
	i, ok := s.index[n]
	if !ok {
		return api.TypeDef{}, false
	}
	return s.types[i], true
}

func (s *Schema) declares(n string) bool {
	_, ok := s.find(n)
	return ok
}

func (s *Schema) is(n string, kind byte) bool {
	t, ok := s.find(n)
	return ok && t.Kind == kind
}

func scalar(n string) bool {
	for _, x := range Scalars {
		if x == n {
			return true
		}
	}
	return false
}

func root(n string) bool {
	return n == "Query" || n == "Mutation"
}
