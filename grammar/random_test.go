package grammar

import (
	"math/rand"
	"strings"

	"columbary/api"
	"columbary/lex"
)

// maker makes random things that a parser may return; open is how much is open around the next one.
type maker struct {
	*rand.Rand
	open int
}

// several makes from one up to a few; fewer inside others.
func several[T any](m *maker, make func() T) []T {
	l := []T{make()}
	for m.Intn(3+m.open) == 0 && len(l) < 5 {
		l = append(l, make())
	}
	return l
}

func maybeSeveral[T any](m *maker, make func() T) []T {
	if m.Intn(2+m.open/2) > 0 {
		return nil
	}
	return several(m, make)
}

// nested makes what counts for the depth.
func nested[T any](m *maker, make func() T) T {
	m.open++
	defer func() { m.open-- }()
	return make()
}

func (m *maker) room() bool { return m.open < api.MaxNest }

func (m *maker) from(l ...string) string { return l[m.Intn(len(l))] }

func (m *maker) name() string {
	return m.from("a", "b", "C", "_", "d9", "__typename", "on", "query", "mutation", "fragment", "true", "false", "null", "type", "interface", "union", "enum", "input", "implements", many("n", 32))
}

func (m *maker) nameBut(but ...string) string {
	for {
		s := m.name()
		if !strings.Contains(" "+strings.Join(but, " ")+" ", " "+s+" ") {
			return s
		}
	}
}

func (m *maker) text() string {
	var s strings.Builder
	for range m.Intn(5) {
		s.WriteString(m.from("a", " ", "  ", `\`, `"`, "\n", "\t", "/", "n", "\r", "é", "\xff", "\x00", "#", ",", "$", "...", "{", "'"))
	}
	return s.String()
}

func (m *maker) number() int64 {
	n := m.Int63n(1e18)
	for range m.Intn(19) {
		n /= 10
	}
	return n * int64(1-2*m.Intn(2))
}

func (m *maker) typ() api.TypeRef {
	return nested(m, func() api.TypeRef {
		t := api.TypeRef{Bang: m.Intn(2) == 0}
		if m.room() && m.Intn(3) == 0 {
			t.Of = []api.TypeRef{m.typ()}
		} else {
			t.Name = m.name()
		}
		return t
	})
}

func (m *maker) value(fixed bool) api.Value {
	return nested(m, func() api.Value {
		switch k := byte(m.Intn(int(api.VRef))); {
		case k == api.VInt:
			return api.Value{Kind: k, N: m.number()}
		case k == api.VText:
			return api.Value{Kind: k, S: m.text()}
		case k == api.VBool:
			return api.Value{Kind: k, N: int64(m.Intn(2))}
		case k == api.VEnum:
			return api.Value{Kind: k, S: m.nameBut("true", "false", "null")}
		case k == api.VVar && !fixed:
			return api.Value{Kind: k, S: m.name()}
		case k == api.VList && m.room():
			return api.Value{Kind: k, L: maybeSeveral(m, func() api.Value { return m.value(fixed) })}
		case k == api.VObject && m.room():
			v := api.Value{Kind: k}
			for _, x := range maybeSeveral(m, func() api.Arg { return m.argument(fixed) }) {
				v.K, v.L = append(v.K, x.Name), append(v.L, x.V)
			}
			return v
		}
		return api.Value{}
	})
}

func (m *maker) argument(fixed bool) api.Arg {
	return api.Arg{Name: m.name(), V: m.value(fixed)}
}

func (m *maker) arguments() []api.Arg {
	if !m.room() {
		return nil
	}
	return maybeSeveral(m, func() api.Arg { return m.argument(false) })
}

func (m *maker) directives() []api.Directive {
	return maybeSeveral(m, func() api.Directive { return api.Directive{Name: m.name(), Args: m.arguments()} })
}

func (m *maker) set() []api.Selection {
	return nested(m, func() []api.Selection { return several(m, m.selection) })
}

func (m *maker) selection() api.Selection {
	x := api.Selection{Kind: api.SField, Dirs: m.directives()}
	switch k := m.Intn(5); {
	case k == 0:
		x.Kind, x.Name = api.SSpread, m.nameBut("on")
	case k == 1 && m.room():
		x.Kind, x.Sub = api.SInline, m.set()
		if m.Intn(2) == 0 {
			x.On = m.name()
		}
	default:
		x.Name, x.Args = m.name(), m.arguments()
		if m.Intn(3) == 0 {
			x.Alias = m.name()
		}
		if m.Intn(3) == 0 && m.room() {
			x.Sub = m.set()
		}
	}
	return x
}

func (m *maker) document() api.Doc {
	var d api.Doc
	for range 1 + m.Intn(3) {
		if m.Intn(3) == 0 {
			d.Frags = append(d.Frags, api.Fragment{Name: m.nameBut("on"), On: m.name(), Sub: m.set()})
		} else {
			d.Ops = append(d.Ops, m.operation())
		}
	}
	return d
}

func (m *maker) operation() api.Operation {
	o := api.Operation{Mutation: m.Intn(2) == 0, Sub: m.set()}
	if m.Intn(2) == 0 {
		o.Name = m.name()
	}
	for _, x := range maybeSeveral(m, m.input) {
		o.Vars = append(o.Vars, api.VarDef{Name: x.Name, T: x.T, Has: x.Has, V: x.V})
	}
	return o
}

func (m *maker) input() api.FieldDef {
	f := api.FieldDef{Name: m.name(), T: m.typ(), Has: m.Intn(2) == 0}
	if f.Has {
		f.V = m.value(true)
	}
	return f
}

func (m *maker) field() api.FieldDef {
	return api.FieldDef{Name: m.name(), T: m.typ(), Args: maybeSeveral(m, m.input)}
}

func (m *maker) definition() api.TypeDef {
	t := api.TypeDef{Kind: byte(1 + m.Intn(int(api.TInput))), Name: m.name()}
	switch t.Kind {
	case api.TObject:
		t.Names, t.Fields = maybeSeveral(m, m.name), several(m, m.field)
	case api.TInterface:
		t.Fields = several(m, m.field)
	case api.TUnion:
		t.Names = several(m, m.name)
	case api.TEnum:
		t.Names = several(m, func() string { return m.nameBut("true", "false", "null") })
	case api.TInput:
		t.Fields = several(m, m.input)
	}
	return t
}

func (m *maker) types() []api.TypeDef { return several(m, m.definition) }

// sources returns the text of each token.
func sources(s string) []string {
	l, _, _ := lex.Tokens(s)
	var out []string
	for i := range max(0, len(l)-1) {
		out = append(out, strings.TrimRight(s[l[i].At:l[i+1].At], " "))
	}
	return out
}

// respaced puts other things between the tokens of a text: nothing, where that is the same.
func (m *maker) respaced(s string) string {
	var b strings.Builder
	last := ""
	for _, x := range sources(s) {
		between := m.from("", "", " ", "\n", ",", "\t,\r", "#\n", "#{\"\n ,", "  ")
		if between == "" && apart(last, x) {
			between = " "
		}
		b.WriteString(between + x)
		last = x
	}
	return b.String() + m.from("", " ", "#", "#}", "\n")
}

// apart tells whether two tokens would become others side by side.
func apart(a, b string) bool {
	l, _, e := lex.Tokens(a + b)
	return a != "" && (e != api.OK || len(l) != 3 || l[1].At != len(a))
}
