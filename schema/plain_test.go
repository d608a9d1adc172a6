package schema_test

import (
	"regexp"
	"slices"
	"strings"

	"columbary/api"
	"columbary/print"
)

// plain is a schema as the chapter's words say it, sentence by sentence, without regard to speed; types are looked at as they are printed.
type plain []api.TypeDef

func (p plain) find(n string) *api.TypeDef {
	for i := range p {
		if p[i].Name == n {
			return &p[i]
		}
	}
	return nil
}

func (p plain) kind(n string) byte {
	if t := p.find(n); t != nil {
		return t.Kind
	}
	return 0
}

func isScalar(n string) bool { return n == "Boolean" || n == "ID" || n == "Int" || n == "String" }

func isRoot(n string) bool { return strings.Contains(" Query Mutation ", " "+n+" ") }

func baseOf(t api.TypeRef) string { return strings.Trim(print.Type(t), "[]!") }

func listsOf(t api.TypeRef) int { return strings.Count(print.Type(t), "[") }

func (p plain) composite(n string) bool {
	return !isRoot(n) && slices.Contains([]byte{api.TObject, api.TInterface, api.TUnion}, p.kind(n))
}

type found struct {
	name string
	e    api.Errno
}

// build tells the first fault, or none.
func (p plain) build() found {
	for i, t := range p {
		if isScalar(t.Name) || p[:i].find(t.Name) != nil {
			return found{t.Name, api.ErrTwice}
		}
		if strings.HasPrefix(t.Name, "__") {
			return found{t.Name, api.ErrArg}
		}
	}
	for _, t := range p {
		for _, step := range []func(api.TypeDef) found{p.step1, p.step2, p.step3} {
			if x := step(t); x.e != api.OK {
				return x
			}
		}
	}
	if p.kind("Query") != api.TObject {
		return found{"Query", api.ErrNone}
	}
	for _, t := range p {
		for _, f := range t.Fields {
			if (t.Kind == api.TObject || t.Kind == api.TInterface) && !p.used(t, f) {
				return found{f.Name, api.ErrForm}
			}
		}
	}
	return found{}
}

func namesOf(l []api.FieldDef) []string {
	var names []string
	for _, f := range l {
		names = append(names, f.Name)
	}
	return names
}

func wrongName(l []string) found {
	for i, n := range l {
		if slices.Contains(l[:i], n) {
			return found{n, api.ErrTwice}
		}
		if strings.HasPrefix(n, "__") {
			return found{n, api.ErrArg}
		}
	}
	return found{}
}

func (p plain) step1(t api.TypeDef) found {
	if x := wrongName(namesOf(t.Fields)); x.e != api.OK {
		return x
	}
	return wrongName(t.Names) // in a text no type but an object has both
}

func (p plain) step2(t api.TypeDef) found {
	for _, f := range t.Fields {
		base := baseOf(f.T)
		if x := p.input(f); t.Kind == api.TInput && x.e != api.OK {
			return x
		}
		if p.kind(base) == 0 && !isScalar(base) {
			return found{base, api.ErrNone}
		}
		if p.kind(base) == api.TInput || isRoot(base) {
			return found{base, api.ErrType}
		}
		if x := wrongName(namesOf(f.Args)); x.e != api.OK {
			return x
		}
		for _, a := range f.Args {
			if p.kind(baseOf(a.T)) != api.TInput {
				if x := p.input(a); x.e != api.OK {
					return x
				}
			} else if a.Has {
				return found{a.Name, api.ErrType}
			}
		}
	}
	return found{}
}

// input is for a field of an input, or an argument like one.
func (p plain) input(f api.FieldDef) found {
	base := baseOf(f.T)
	if p.kind(base) == 0 && !isScalar(base) {
		return found{base, api.ErrNone}
	}
	if !isScalar(base) && p.kind(base) != api.TEnum || isRoot(base) {
		return found{base, api.ErrType}
	}
	if f.Has && !p.fits(f.T, f.V) {
		return found{f.Name, api.ErrType}
	}
	return found{}
}

func (p plain) step3(t api.TypeDef) found {
	want := map[byte]byte{api.TObject: api.TInterface, api.TUnion: api.TObject}[t.Kind]
	for _, n := range t.Names {
		switch {
		case want == 0:
		case p.kind(n) == 0:
			return found{n, api.ErrNone}
		case p.kind(n) != want || isRoot(n):
			return found{n, api.ErrType}
		case want == api.TInterface:
			for _, f := range p.find(n).Fields {
				if !slices.ContainsFunc(t.Fields, func(g api.FieldDef) bool { return g.Name == f.Name && print.Type(g.T) == print.Type(f.T) }) {
					return found{n, api.ErrForm}
				}
			}
		}
	}
	return found{}
}

var (
	lookupField = regexp.MustCompile(`^\w+\(id: ID!\): (\w+)$`)
	allField    = regexp.MustCompile(`^\w+: \[(\w+)!\]!$`)
	deleteField = regexp.MustCompile(`^delete(\w+)\(id: ID!\): (\w+)$`)
	fillField   = regexp.MustCompile(`^(?:create|update)(\w+)\(id: ID!, input: (\w+)!\): (\w+)$`)
)

// used matches a whole field as it is printed.
func (p plain) used(t api.TypeDef, f api.FieldDef) bool {
	text := strings.TrimSuffix(strings.TrimPrefix(print.Types([]api.TypeDef{{Kind: api.TObject, Fields: []api.FieldDef{f}}}), "type  { "), " }")
	switch {
	case t.Name == "Query":
		if x := lookupField.FindStringSubmatch(text); x != nil {
			return p.composite(x[1])
		}
		x := allField.FindStringSubmatch(text)
		return x != nil && p.composite(x[1])
	case t.Name == "Mutation" && t.Kind != api.TObject:
		return false
	case t.Name == "Mutation":
		if x := deleteField.FindStringSubmatch(text); x != nil {
			return x[1] == x[2] && p.kind(x[1]) == api.TObject && !isRoot(x[1])
		}
		x := fillField.FindStringSubmatch(text)
		return x != nil && x[1] == x[3] && p.kind(x[1]) == api.TObject && !isRoot(x[1]) && p.kind(x[2]) == api.TInput && p.filled(p.find(x[2]).Fields, p.find(x[1]).Fields)
	}
	return len(f.Args) == 0
}

func (p plain) filled(in, own []api.FieldDef) bool {
	for _, f := range in {
		if !slices.ContainsFunc(own, func(g api.FieldDef) bool {
			return g.Name == f.Name && listsOf(g.T) == listsOf(f.T) && (baseOf(f.T) == baseOf(g.T) || baseOf(f.T) == "ID" && p.composite(baseOf(g.T)))
		}) {
			return false
		}
	}
	return true
}

func (p plain) fits(t api.TypeRef, v api.Value) bool {
	switch {
	case v.Kind == api.VNull:
		return !t.Bang
	case len(t.Of) == 1 && v.Kind == api.VList:
		return !slices.ContainsFunc(v.L, func(x api.Value) bool { return !p.fits(t.Of[0], x) })
	case len(t.Of) == 1:
		return p.fits(t.Of[0], v)
	case t.Name == "Int":
		return v.Kind == api.VInt && v.N < 1<<31 && v.N >= -1<<31
	case t.Name == "ID" && v.Kind == api.VInt:
		return true
	case t.Name == "ID" || t.Name == "String":
		return v.Kind == api.VText
	case t.Name == "Boolean":
		return v.Kind == api.VBool
	case p.kind(t.Name) == api.TEnum:
		return v.Kind == api.VEnum && slices.Contains(p.find(t.Name).Names, v.S)
	}
	return p.kind(t.Name) == api.TInput && v.Kind == api.VObject && p.fitsInput(p.find(t.Name).Fields, v)
}

func (p plain) fitsInput(l []api.FieldDef, v api.Value) bool {
	times := map[string]int{}
	for i, n := range v.K {
		times[n]++
		f := slices.IndexFunc(l, func(f api.FieldDef) bool { return f.Name == n })
		if f < 0 || times[n] > 1 || !p.fits(l[f].T, v.L[i]) {
			return false
		}
	}
	return !slices.ContainsFunc(l, func(f api.FieldDef) bool { return times[f.Name] == 0 && f.T.Bang && !f.Has })
}

func (p plain) possible(n string) []string {
	var l []string
	switch p.kind(n) {
	case api.TObject:
		l = []string{n}
	case api.TUnion:
		l = p.find(n).Names
	case api.TInterface:
		for _, t := range p {
			if t.Kind == api.TObject && slices.Contains(t.Names, n) {
				l = append(l, t.Name)
			}
		}
	}
	return l
}

func (p plain) field(n, field string) (api.FieldDef, bool) {
	t := p.find(n)
	switch {
	case t == nil:
		return api.FieldDef{}, false
	case field == "__typename" && (isRoot(n) || p.composite(n)):
		return api.FieldDef{Name: field, T: must("String")}, true
	case t.Kind == api.TObject || t.Kind == api.TInterface:
		for _, f := range t.Fields {
			if f.Name == field {
				return f, true
			}
		}
	}
	return api.FieldDef{}, false
}
