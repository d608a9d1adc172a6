package schema

import (
	"strings"

	"columbary/api"
)

// checker holds types against the rules in the order of the document, so only its first fault counts; what it looks at after that is without effect.
type checker struct {
	*Schema
	name string
	e    api.Errno
}

func Build(l []api.TypeDef) (*Schema, string, api.Errno) {
	s := &Schema{types: copyTypes(l), index: map[string]int{}}
	c := &checker{Schema: s}
	c.typeNames()
	for _, t := range s.types {
		c.definition(t)
	}
	c.refuse("Query", api.ErrNone, !s.is("Query", api.TObject))
	for _, t := range s.types {
		c.uses(t)
	}
	if c.e != api.OK {
		return nil, c.name, c.e
	}
	return s, "", api.OK
}

func (c *checker) refuse(name string, e api.Errno, when bool) {
	if when && c.e == api.OK {
		c.name, c.e = name, e
	}
}

// typeNames fills the index, too.
func (c *checker) typeNames() {
	for i, t := range c.types {
		c.refuse(t.Name, api.ErrTwice, scalar(t.Name) || c.declares(t.Name))
		c.refuse(t.Name, api.ErrArg, reserved(t.Name))
		c.index[t.Name] = i
	}
}

// names refuses a name where it occurs for the second time.
func (c *checker) names(l []string) {
	before := map[string]struct{}{}
	for _, n := range l {
		_, twice := before[n]
		c.refuse(n, api.ErrTwice, twice)
		c.refuse(n, api.ErrArg, reserved(n))
		before[n] = struct{}{}
	}
}

func (c *checker) definition(t api.TypeDef) {
	if t.Kind == api.TObject { // its own fields may have the names of interfaces
		c.names(fieldNames(t.Fields))
		c.names(t.Names)
	} else {
		c.names(append(fieldNames(t.Fields), t.Names...))
	}
	for _, f := range t.Fields {
		c.field(f, t.Kind == api.TInput)
	}
	if t.Kind == api.TEnum {
		return
	}
	for _, n := range t.Names {
		c.related(t, n)
	}
}

func (c *checker) field(f api.FieldDef, ofInput bool) {
	c.typed(f, ofInput)
	c.names(fieldNames(f.Args))
	for _, a := range f.Args {
		if c.Input(Base(a.T)) {
			c.refuse(a.Name, api.ErrType, a.Has)
		} else {
			c.typed(a, true)
		}
	}
}

func (c *checker) typed(f api.FieldDef, ofInput bool) {
	base := Base(f.T)
	c.refuse(base, api.ErrNone, !c.Scalar(base) && !c.declares(base))
	c.refuse(base, api.ErrType, ofInput && !c.Leaf(base) || !ofInput && c.Input(base) || root(base))
	c.refuse(f.Name, api.ErrType, f.Has && !c.Fits(f.T, f.V))
}

// related is for the interfaces of an object, and the members of a union.
func (c *checker) related(t api.TypeDef, n string) {
	x, ok := c.find(n)
	c.refuse(n, api.ErrNone, !ok)
	c.refuse(n, api.ErrType, t.Kind == api.TObject && x.Kind != api.TInterface || t.Kind == api.TUnion && x.Kind != api.TObject || root(n))
	c.refuse(n, api.ErrForm, t.Kind == api.TObject && !implements(t, x))
}

func implements(t, x api.TypeDef) bool {
	own := byName(t.Fields)
	for _, f := range x.Fields {
		g, ok := own[f.Name]
		if !ok || !SameType(f.T, g.T) {
			return false
		}
	}
	return true
}

// uses is for what the fields of a type may do, by the name of that type.
func (c *checker) uses(t api.TypeDef) {
	if t.Kind != api.TObject && t.Kind != api.TInterface {
		return
	}
	for _, f := range t.Fields {
		c.refuse(f.Name, api.ErrForm, !c.allowed(t, f))
	}
}

func (c *checker) allowed(t api.TypeDef, f api.FieldDef) bool {
	switch t.Name {
	case "Query":
		return c.lookup(f) || c.all(f)
	case "Mutation":
		return t.Kind == api.TObject && c.mutation(f)
	}
	return len(f.Args) == 0
}

func (c *checker) lookup(f api.FieldDef) bool {
	return onlyID(f.Args) && c.Composite(f.T.Name) && SameType(f.T, api.TypeRef{Name: f.T.Name})
}

func (c *checker) all(f api.FieldDef) bool {
	base := Base(f.T)
	inner := api.TypeRef{Name: base, Bang: true}
	return len(f.Args) == 0 && c.Composite(base) && SameType(f.T, api.TypeRef{Of: []api.TypeRef{inner}, Bang: true})
}

func (c *checker) mutation(f api.FieldDef) bool {
	verb, n := Verb(f.Name)
	t, _ := c.find(n)
	if verb == "" || t.Kind != api.TObject || root(n) || !SameType(f.T, api.TypeRef{Name: n}) {
		return false
	}
	if verb == "delete" {
		return onlyID(f.Args)
	}
	return len(f.Args) == 2 && onlyID(f.Args[:1]) && c.fills(f.Args[1], t)
}

func onlyID(l []api.FieldDef) bool {
	return len(l) == 1 && l[0].Name == "id" && SameType(l[0].T, api.TypeRef{Name: "ID", Bang: true}) && !l[0].Has
}

// fills tells whether an argument is of an input that has nothing but what an object has.
func (c *checker) fills(a api.FieldDef, t api.TypeDef) bool {
	if a.Name != "input" || !c.Input(a.T.Name) || !SameType(a.T, api.TypeRef{Name: a.T.Name, Bang: true}) {
		return false
	}
	input, _ := c.find(a.T.Name)
	own := byName(t.Fields)
	for _, f := range input.Fields {
		g, ok := own[f.Name]
		if !ok || !c.stores(f.T, g.T) {
			return false
		}
	}
	return true
}

// stores tells whether what is given for one type may become a field of another: an entity is given by its ID.
func (c *checker) stores(given, own api.TypeRef) bool {
	base, lists := unwrapped(given)
	ownBase, ownLists := unwrapped(own)
	return lists == ownLists && (base == ownBase || base == "ID" && c.Composite(ownBase))
}

func fieldNames(l []api.FieldDef) []string {
	var names []string
	for _, f := range l {
		names = append(names, f.Name)
	}
	return names
}

func reserved(n string) bool {
	return strings.HasPrefix(n, "__")
}
