package schema

import (
	"slices"

	"columbary/api"
)

// Callers may change the types that they passed, and those that they were given: so types are copied on the way in and out. The values in them stay, since nobody changes a value.

func copyTypes(l []api.TypeDef) []api.TypeDef {
	out := slices.Clone(l)
	for i, t := range out {
		out[i] = copyTypeDef(t)
	}
	return out
}

func copyTypeDef(t api.TypeDef) api.TypeDef {
	t.Fields = copyFields(t.Fields)
	t.Names = slices.Clone(t.Names)
	return t
}

func copyFields(l []api.FieldDef) []api.FieldDef {
	out := slices.Clone(l)
	for i, f := range out {
		out[i].T = copyType(f.T)
		out[i].Args = slices.Clone(f.Args) // of types without lists, or the schema would not have been built
	}
	return out
}

func copyType(t api.TypeRef) api.TypeRef {
	at := &t
	for len(at.Of) > 0 {
		at.Of = []api.TypeRef{at.Of[0]}
		at = &at.Of[0]
	}
	at.Of = nil
	return t
}
