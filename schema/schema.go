// Package schema is layer 9: see shared/doc/09-schema.md.
package schema

import (
	"columbary/api"
)

// Scalars: the types that are there without being declared.
var Scalars = [4]string{"Boolean", "ID", "Int", "String"}

// Schema is types that go together.
type Schema struct{}

// Base: the name within a type as it is named.
func Base(t api.TypeRef) (r0 string) { return }

// SameType: are two types one?
func SameType(a, b api.TypeRef) (r0 bool) { return }

// Build: the schema of some types; the name at fault.
func Build(l []api.TypeDef) (r0 *Schema, r1 string, r2 api.Errno) { return }

// Verb: what a field of Mutation does (create, update, delete), and to which type.
func Verb(name string) (r0 string, r1 string) { return }

// Types: all types, in their order. Type: a type that was declared.
func (s *Schema) Types() (r0 []api.TypeDef) { return }

func (s *Schema) Type(n string) (r0 api.TypeDef, r1 bool) { return }

// Scalar, Enum, Input: is it one? Composite: has it things? Leaf: is it a scalar or an enum?
func (s *Schema) Scalar(n string) (r0 bool) { return }

func (s *Schema) Enum(n string) (r0 bool) { return }

func (s *Schema) Input(n string) (r0 bool) { return }

func (s *Schema) Leaf(n string) (r0 bool) { return }

func (s *Schema) Composite(n string) (r0 bool) { return }

// Possible: of which types a thing of a type may be, in the order in which they are declared (of a union: as it names them).
func (s *Schema) Possible(n string) (r0 []string) { return }

// Field: the field of a type; __typename, too.
func (s *Schema) Field(n, field string) (r0 api.FieldDef, r1 bool) { return }

// Fits: may a value, as it is written, without variables, stand for a type of an argument?
func (s *Schema) Fits(t api.TypeRef, v api.Value) (r0 bool) { return }
