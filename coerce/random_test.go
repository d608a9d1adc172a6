package coerce_test

import (
	"math/rand"
	"testing"

	"columbary/api"
	"columbary/coerce"
	"columbary/sdl"
)

// maker makes types and values that are nearly right for them.
type maker struct {
	*rand.Rand
	plain
	faults int // one value in so many is at fault
}

func oneOf[T any](m *maker, l ...T) T { return l[m.Intn(len(l))] }

func (m *maker) typ() api.TypeRef {
	x := api.TypeRef{Bang: m.Intn(3) == 0}
	if m.Intn(3) == 0 {
		x.Of = []api.TypeRef{m.typ()}
	} else {
		x.Name = oneOf(m, "Int", "ID", "String", "Boolean", "E", "E", "M", "N", "N", "R", "R", "A", "None")
		if (x.Name == "A" || x.Name == "None") && m.Intn(m.faults) > 0 {
			x.Name = "E"
		}
	}
	return x
}

func (m *maker) value(t api.TypeRef) api.Value {
	switch n := m.Intn(m.faults); {
	case n == 0:
		return m.anything()
	case n == 1 || n == 2 && !t.Bang || t.Name == "A" || t.Name == "None":
		return api.Value{}
	case n == 3:
		return api.Value{Kind: api.VVar, S: oneOf(m, "a", "b", "c")}
	case len(t.Of) > 0 && n%3 == 0:
		return m.value(t.Of[0])
	case len(t.Of) > 0:
		v := api.Value{Kind: api.VList}
		for range m.Intn(4) {
			v.L = append(v.L, m.value(t.Of[0]))
		}
		return v
	}
	return m.single(t)
}

func (m *maker) single(t api.TypeRef) api.Value {
	switch t.Name {
	case "Int":
		return api.Value{Kind: api.VInt, N: oneOf[int64](m, 0, -1, 1<<31-1, -1<<31, int64(m.Intn(100)))}
	case "Boolean":
		return api.Value{Kind: api.VBool, N: int64(m.Intn(2))}
	case "ID":
		if m.Intn(2) == 0 {
			return api.Value{Kind: api.VInt, N: m.Int63() - m.Int63()}
		}
		return api.Value{Kind: api.VText, S: oneOf(m, "", "V", "7")}
	case "String":
		return api.Value{Kind: api.VText, S: oneOf(m, "", "V", "x")}
	case "E":
		return api.Value{Kind: oneOf(m, api.VEnum, api.VEnum, api.VText), S: oneOf(m, "V", "W")}
	}
	return m.object(m.find(t.Name, api.TInput).Fields)
}

// object has most fields, in a random order.
func (m *maker) object(l []api.FieldDef) api.Value {
	v := api.Value{Kind: api.VObject}
	for _, i := range m.Perm(len(l)) {
		if l[i].T.Bang && m.Intn(m.faults) > 0 || m.Intn(3) > 0 {
			v.K, v.L = append(v.K, l[i].Name), append(v.L, m.value(l[i].T))
		}
	}
	if m.Intn(m.faults) == 0 {
		v.K, v.L = append(v.K, oneOf(m, "a", "b", "i", "q")), append(v.L, m.anything())
	}
	return v
}

func (m *maker) anything() api.Value {
	v := api.Value{Kind: oneOf(m, api.VNull, api.VInt, api.VText, api.VBool, api.VEnum, api.VList, api.VObject, api.VVar, api.VRef)}
	switch v.Kind {
	case api.VInt:
		v.N = oneOf[int64](m, 0, 1<<31, -1<<31-1, 1<<32)
	case api.VBool:
		v.N = 1
	case api.VText, api.VEnum, api.VVar, api.VRef:
		v.S = oneOf(m, "V", "X", "a", "b", "")
	case api.VList:
		for range m.Intn(3) {
			v.L = append(v.L, m.value(m.typ()))
		}
	case api.VObject:
		for range m.Intn(3) {
			v.K, v.L = append(v.K, oneOf(m, "a", "b", "i", "s")), append(v.L, m.value(m.typ()))
		}
	}
	return v
}

// fields are declarations, now and then of one name, with defaults that may be at fault.
func (m *maker) fields() []api.FieldDef {
	var l []api.FieldDef
	for _, n := range []string{"a", "b", "i", "d"}[:m.Intn(5)] {
		f := api.FieldDef{Name: n, T: m.typ()}
		if m.Intn(3) == 0 {
			f.Has, f.V = true, m.value(f.T)
		}
		if m.Intn(30) == 0 {
			f.Name = "a"
		}
		l = append(l, f)
	}
	return l
}

func outcomeOf(v *api.Value, name string, e api.Errno) outcome {
	if v == nil {
		return outcome{none: true, name: name, e: e}
	}
	return outcome{v: *v, name: name, e: e}
}

// compared counts, by errors, what the calls and the plain ones agree on.
func (m *maker) compared(t *testing.T, what []any, got, want outcome, seen map[api.Errno]int) {
	t.Helper()
	if !same(got, want) {
		t.Fatalf("%+v: %+v; want %+v", what, got, want)
	}
	seen[want.e]++
}

func (m *maker) rounds(t *testing.T, round func(seen map[api.Errno]int)) {
	t.Helper()
	seen := map[api.Errno]int{}
	for i := range 60000 {
		m.faults = []int{8, 20, 60}[i%3]
		round(seen)
	}
	for _, e := range []api.Errno{api.OK, api.ErrNone, api.ErrTwice, api.ErrType, api.ErrNull} {
		if seen[e] < 100 {
			t.Errorf("only %d with the error %d", seen[e], e)
		}
	}
}

func newMaker(seed int64) *maker {
	l, _, _ := sdl.Types(whole)
	return &maker{Rand: rand.New(rand.NewSource(seed)), plain: l}
}

// P10.1 to P10.3, held against the plain words for values that are nearly right.
func TestRandomValues(t *testing.T) {
	m, s := newMaker(1), built(t, whole)
	m.rounds(t, func(seen map[api.Errno]int) {
		typ := m.typ()
		v, vars := m.value(typ), m.object(m.fields())
		want, e := m.literal(typ, v, &vars)
		x, ok, f := coerce.Literal(s, typ, v, vars)
		m.compared(t, []any{"Literal", typ, v, vars}, outcome{v: x, none: !ok, e: f}, outcomeOf(want, "", e), seen)
		want, e = m.literal(typ, v, nil)
		x, f = coerce.Input(s, typ, v)
		m.compared(t, []any{"Input", typ, v}, outcome{v: x, none: f != api.OK, e: f}, outcomeOf(want, "", e), seen)
	})
}

func TestRandomArgs(t *testing.T) {
	m, s := newMaker(2), built(t, whole)
	m.rounds(t, func(seen map[api.Errno]int) {
		f := api.FieldDef{Name: "f", Args: m.fields()}
		v, vars := m.object(f.Args), m.object(m.fields())
		var l []api.Arg
		for i, n := range v.K {
			l = append(l, api.Arg{Name: n, V: v.L[i]})
		}
		want, name, e := m.args(f, l, vars)
		x, n, g := coerce.Args(s, f, l, vars)
		m.compared(t, []any{"Args", f, l, vars}, outcome{v: x, none: g != api.OK, name: n, e: g}, outcomeOf(want, name, e), seen)
	})
}

func TestRandomVars(t *testing.T) {
	m, s := newMaker(3), built(t, whole)
	m.rounds(t, func(seen map[api.Errno]int) {
		var l []api.VarDef
		fields := m.fields()
		for _, f := range fields {
			l = append(l, api.VarDef{Name: f.Name, T: f.T, Has: f.Has, V: f.V})
		}
		given := m.object(fields)
		want, name, e := m.vars(l, given)
		x, n, g := coerce.Vars(s, l, given)
		m.compared(t, []any{"Vars", l, given}, outcome{v: x, none: g != api.OK, name: n, e: g}, outcomeOf(want, name, e), seen)
	})
}
