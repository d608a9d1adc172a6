package wire_test

import (
	"bytes"
	"encoding/hex"
	"math"
	"math/rand"
	"slices"
	"strings"
	"testing"

	"columbary/api"
	"columbary/ledger"
	"columbary/wire"
)

func null() api.Value          { return api.Value{} }
func num(n int64) api.Value    { return api.Value{Kind: api.VInt, N: n} }
func truth(n int64) api.Value  { return api.Value{Kind: api.VBool, N: n} }
func text(s string) api.Value  { return api.Value{Kind: api.VText, S: s} }
func enum(s string) api.Value  { return api.Value{Kind: api.VEnum, S: s} }
func vari(s string) api.Value  { return api.Value{Kind: api.VVar, S: s} }
func refer(s string) api.Value { return api.Value{Kind: api.VRef, S: s} }

func list(l ...api.Value) api.Value { return api.Value{Kind: api.VList, L: l} }

func object(k []string, l ...api.Value) api.Value {
	return api.Value{Kind: api.VObject, K: k, L: l}
}

// inside puts a value into so many lists, or objects.
func inside(n int, objects bool, v api.Value) api.Value {
	for range n {
		if objects {
			v = object([]string{"k"}, v)
		} else {
			v = list(v)
		}
	}
	return v
}

func spaced(p []byte) string {
	var out []string
	for _, b := range p {
		out = append(out, hex.EncodeToString([]byte{b}))
	}
	return strings.Join(out, " ")
}

func raw(t *testing.T, s string) []byte {
	t.Helper()
	p, err := hex.DecodeString(strings.ReplaceAll(s, " ", ""))
	if err != nil {
		t.Fatal(err)
	}
	return p
}

func gives(t *testing.T, w *wire.Writer, want string) {
	t.Helper()
	if got := spaced(w.Done()); got != want {
		t.Errorf("wrote %s, want %s", got, want)
	}
}

func writer() *wire.Writer { return new(wire.Writer) }

var uints = map[uint64]string{
	0: "00", 1: "01", 127: "7f", 128: "80 01", 300: "ac 02", 16383: "ff 7f", 16384: "80 80 01",
	1<<63 - 1: "ff ff ff ff ff ff ff ff 7f", 1 << 63: "80 80 80 80 80 80 80 80 80 01", math.MaxUint64: "ff ff ff ff ff ff ff ff ff 01",
}

var ints = map[int64]string{
	0: "00", -1: "01", 1: "02", -2: "03", 63: "7e", -64: "7f", 64: "80 01", -65: "81 01",
	math.MaxInt64: "fe ff ff ff ff ff ff ff ff 01", math.MinInt64: "ff ff ff ff ff ff ff ff ff 01",
}

// values are encoded as the words of P3.1 say.
func values() map[string]api.Value {
	return map[string]api.Value{
		"00":                                  null(),
		"01 02":                               num(1),
		"01 01":                               num(-1),
		"01 d8 04":                            num(300),
		"02 00":                               text(""),
		"02 02 68 69":                         text("hi"),
		"03 00":                               truth(0),
		"03 02":                               truth(1),
		"04 01 41":                            enum("A"),
		"05 00":                               list(),
		"06 00":                               object(nil),
		"07 01 76":                            vari("v"),
		"08 02 00 ff":                         refer("\x00\xff"),
		"05 01 00":                            list(null()),
		"06 01 00 00":                         object([]string{""}, null()),
		"05 01 05 01 00":                      list(list(null())),
		"05 03 05 00 06 00 01 00":             list(list(), object(nil), num(0)),
		"06 02 01 62 01 02 01 61 05 01 01 04": object([]string{"b", "a"}, num(1), list(num(2))),
		"06 02 01 61 00 01 61 03 02":          object([]string{"a", "a"}, null(), truth(1)),
		"05 02 01 02 03 02":                   list(num(1), truth(1)),
	}
}

// P3.1.
func TestUint(t *testing.T) {
	for n, want := range uints {
		gives(t, writer().Uint(n), want)
		r := wire.Read(raw(t, want))
		if got := r.Uint(n); got != n || !r.End() {
			t.Errorf("read %s as %d, End %v", want, got, r.End())
		}
		r = wire.Read(raw(t, want))
		if got := r.Uint(math.MaxUint64); got != n || !r.End() {
			t.Errorf("read %s as %d, End %v", want, got, r.End())
		}
	}
	for k := range 64 {
		for _, n := range []uint64{1 << k, 1<<k - 1, 1<<k + 1, 3 << k} {
			r := wire.Read(writer().Uint(n).Done())
			if got := r.Uint(math.MaxUint64); got != n || !r.End() {
				t.Errorf("wrote %d, read %d", n, got)
			}
		}
	}
}

// P3.1.
func TestInt(t *testing.T) {
	for n, want := range ints {
		gives(t, writer().Int(n), want)
		r := wire.Read(raw(t, want))
		if got := r.Int(); got != n || !r.End() {
			t.Errorf("read %s as %d, End %v", want, got, r.End())
		}
	}
}

// P3.1.
func TestText(t *testing.T) {
	gives(t, writer().Text(""), "00")
	gives(t, writer().Text("ab\x00"), "03 61 62 00")
	long := strings.Repeat("x", 300)
	if got := writer().Text(long).Done(); string(got) != "\xac\x02"+long {
		t.Errorf("wrote %q", got)
	}
	r := wire.Read(writer().Text("").Text(long).Text("é").Done())
	if a, b, c := r.Text(0), r.Text(300), r.Text(2); a != "" || b != long || c != "é" || !r.End() {
		t.Errorf("read %q, %q, %q", a, b, c)
	}
}

// P3.1.
func TestValue(t *testing.T) {
	for want, v := range values() {
		gives(t, writer().Value(v), want)
		r := wire.Read(raw(t, want))
		if got := r.Value(); !wire.Same(got, v) || !r.End() {
			t.Errorf("read %s as %v, End %v", want, got, r.End())
		}
		if !wire.Form(v) {
			t.Errorf("no Form: %v", v)
		}
	}
}

// P3.1.
func TestEntity(t *testing.T) {
	for want, x := range map[string]api.Entity{
		"00 00 06 00":          {},
		"01 41 01 31 06 00":    {Type: "A", ID: "1"},
		"00 00 06 01 00 00":    {K: []string{""}, L: []api.Value{null()}},
		"01 41 02 ff 00 06 00": {Type: "A", ID: "\xff\x00"},
		"01 41 01 31 06 02 01 61 01 02 02 61 62 08 01 32": {Type: "A", ID: "1", K: []string{"a", "ab"}, L: []api.Value{num(1), refer("2")}},
	} {
		gives(t, writer().Entity(x), want)
		r := wire.Read(raw(t, want))
		got := r.Entity()
		if got.Type != x.Type || got.ID != x.ID || !slices.Equal(got.K, x.K) || !wire.Same(list(got.L...), list(x.L...)) || !r.End() {
			t.Errorf("read %s as %v, End %v", want, got, r.End())
		}
	}
}

// P3.1: each call appends, and returns the writer itself.
func TestWriter(t *testing.T) {
	var w wire.Writer
	if p := w.Done(); len(p) != 0 {
		t.Errorf("nothing was written, and Done = %v", p)
	}
	for i, same := range []*wire.Writer{w.Uint(1), w.Int(1), w.Text("a"), w.Value(num(1)), w.Entity(api.Entity{})} {
		if same != &w {
			t.Errorf("call %d returns another writer", i)
		}
	}
	gives(t, &w, "01 02 01 61 01 02 00 00 06 00")
	gives(t, w.Uint(7), "01 02 01 61 01 02 00 00 06 00 07")
}

// P3.1: the checksum is the one of layer 2, the lowest byte first, and is not written.
func TestSealed(t *testing.T) {
	if got := spaced(writer().Sealed()); got != "00 00 00 00" {
		t.Errorf("Sealed of nothing = %s", got)
	}
	w := writer()
	for _, c := range "123456789" {
		w.Uint(uint64(c))
	}
	const digits, sum = "31 32 33 34 35 36 37 38 39", " 26 39 f4 cb"
	for range 2 {
		if got := spaced(w.Sealed()); got != digits+sum {
			t.Errorf("Sealed = %s", got)
		}
		gives(t, w, digits)
	}
	w.Uint(0)
	gives(t, w, digits+" 00")
}

// P3.2: Open finds any change of up to two bits, and takes nothing that is too short.
func TestOpen(t *testing.T) {
	p := writer().Uint(300).Text("ab").Sealed()
	r, e := wire.Open(p)
	if e != api.OK || r.Uint(300) != 300 || r.Text(2) != "ab" || !r.End() {
		t.Fatalf("Open: %d", e)
	}
	for n := range 4 {
		if r, e := wire.Open(p[:n]); r != nil || e != api.ErrForm {
			t.Errorf("Open of %d bytes = %v, %d", n, r, e)
		}
	}
	for n := 4; n < len(p); n++ {
		if r, e := wire.Open(p[:n]); r != nil || e != api.ErrSum {
			t.Errorf("Open of %d bytes of %d = %v, %d", n, len(p), r, e)
		}
	}
	for i := range len(p) * 8 {
		for k := range len(p) * 8 {
			q := bytes.Clone(p)
			q[i/8] ^= 1 << (i % 8)
			if k != i {
				q[k/8] ^= 1 << (k % 8)
			}
			if r, e := wire.Open(q); r != nil || e != api.ErrSum {
				t.Fatalf("Open with the bits %d, %d turned = %v, %d", i, k, r, e)
			}
		}
	}
	if r, e := wire.Open(make([]byte, 4)); e != api.OK || !r.End() {
		t.Errorf("Open of nothing, sealed = %v, %d", r, e)
	}
	q := append([]byte{9}, p...)
	if r, e := wire.Open(q[1:]); e != api.OK || r.Uint(300) != 300 {
		t.Errorf("Open of a part: %d", e)
	}
	if ledger.Sum(p[:len(p)-4]) != uint32(p[len(p)-4])|uint32(p[len(p)-3])<<8|uint32(p[len(p)-2])<<16|uint32(p[len(p)-1])<<24 {
		t.Errorf("another checksum: %s", spaced(p))
	}
}

// reads is every read, each of which a fault ends.
var reads = []struct {
	name string
	zero func(r *wire.Reader) bool
}{
	{"Uint", func(r *wire.Reader) bool { return r.Uint(math.MaxUint64) == 0 }},
	{"Int", func(r *wire.Reader) bool { return r.Int() == 0 }},
	{"Text", func(r *wire.Reader) bool { return r.Text(math.MaxInt) == "" }},
	{"Value", func(r *wire.Reader) bool { v := r.Value(); return wire.Same(v, null()) }},
	{"Entity", func(r *wire.Reader) bool {
		x := r.Entity()
		return x.Type == "" && x.ID == "" && len(x.K) == 0 && len(x.L) == 0
	}},
}

// over checks that a read returned a zero value because of a fault, and that every further one does.
func over(t *testing.T, what string, r *wire.Reader, zero bool) {
	t.Helper()
	if !zero || !r.Bad() || r.End() {
		t.Errorf("%s: zero %v, Bad %v, End %v", what, zero, r.Bad(), r.End())
	}
	for _, read := range reads {
		if !read.zero(r) || !r.Bad() || r.End() {
			t.Errorf("%s: %s reads on", what, read.name)
		}
	}
}

func bad(t *testing.T, read int, p []byte) {
	t.Helper()
	r := wire.Read(p)
	if r.Bad() {
		t.Errorf("bad before the first read")
	}
	over(t, reads[read].name+" of "+spaced(p[:min(len(p), 40)]), r, reads[read].zero(r))
}

const (
	ofUint = iota
	ofInt
	ofText
	ofValue
	ofEntity
)

// P3.2: numbers that are none.
func TestBadNumbers(t *testing.T) {
	for _, s := range []string{
		"", "80", "ff", "80 80", "ff ff ff ff ff ff ff ff ff",
		"80 00", "81 00", "ff ff 00", "80 80 80 80 80 80 80 80 80 00", "ff ff ff ff ff ff ff ff ff 00",
		"ff ff ff ff ff ff ff ff ff 02", "80 80 80 80 80 80 80 80 80 02", "ff ff ff ff ff ff ff ff ff 7f", "80 80 80 80 80 80 80 80 80 03",
		"ff ff ff ff ff ff ff ff ff 81 00", "80 80 80 80 80 80 80 80 80 80 01", "ff ff ff ff ff ff ff ff ff 81 01", "80 80 80 80 80 80 80 80 80 80 80 80 80 80 80 80 80 80 80 01",
	} {
		p := raw(t, s)
		bad(t, ofUint, p)
		bad(t, ofInt, p)
		bad(t, ofText, p)
		bad(t, ofValue, p)
		bad(t, ofEntity, p)
		bad(t, ofValue, append([]byte{api.VInt}, p...))
		bad(t, ofValue, append([]byte{api.VList}, p...))
	}
}

// P3.2: numbers above most.
func TestMost(t *testing.T) {
	for _, most := range []uint64{0, 1, 127, 128, 300, 1 << 62, math.MaxUint64 - 1} {
		r := wire.Read(writer().Uint(most).Uint(most + 1).Uint(0).Done())
		if got := r.Uint(most); got != most || r.Bad() {
			t.Errorf("Uint(%d) = %d", most, got)
		}
		got := r.Uint(most)
		over(t, "a number above most", r, got == 0)
	}
}

// P3.2: strings of more than most bytes.
func TestTextMost(t *testing.T) {
	for _, most := range []int{0, 1, 2, 127, 128, 300} {
		r := wire.Read(writer().Text(strings.Repeat("x", most)).Text(strings.Repeat("y", most+1)).Uint(0).Done())
		if got := r.Text(most); got != strings.Repeat("x", most) || r.Bad() {
			t.Errorf("Text(%d) = %q", most, got)
		}
		got := r.Text(most)
		over(t, "a string of more than most bytes", r, got == "")
	}
	for _, most := range []int{-1, -2, math.MinInt} {
		r := wire.Read(writer().Text("").Text("x").Done())
		if got := r.Text(most); got != "" || r.Bad() {
			t.Errorf("Text(%d) of an empty string is bad", most)
		}
		got := r.Text(most)
		over(t, "a string, where none may be", r, got == "")
	}
}

// P3.2: the bytes end within.
func TestBadEnds(t *testing.T) {
	for s := range values() {
		p := raw(t, s)
		for n := range p {
			bad(t, ofValue, p[:n])
		}
	}
	p := writer().Entity(api.Entity{Type: "A", ID: "12", K: []string{"a", "b"}, L: []api.Value{num(300), list(text("x"))}}).Done()
	for n := range p {
		bad(t, ofEntity, p[:n])
	}
	bad(t, ofText, raw(t, "01"))
	bad(t, ofText, raw(t, "03 61 62"))
	bad(t, ofText, raw(t, "ff ff ff ff ff ff ff ff ff 01 61"))
	bad(t, ofText, raw(t, "ff ff ff ff ff ff ff ff 7f 61"))
}

// P3.2: values that are none.
func TestBadValues(t *testing.T) {
	for _, s := range []string{
		"09", "09 00", "0a 00", "7f", "80 02", "80 02 00", "81 02 02", "88 00", // kinds
		"03 01", "03 03", "03 04", "03 05", "03 fe ff ff ff ff ff ff ff ff 01", // booleans
		"05 01 09", "06 01 01 61 09", "05 02 00 03 04",
	} {
		bad(t, ofValue, raw(t, s+" 00 00 00 00 00 00 00 00"))
	}
}

// P3.2: how long strings and names in values may be, and how many elements there may be.
func TestBounds(t *testing.T) {
	long, name := strings.Repeat("s", api.MaxString), strings.Repeat("n", api.MaxName)
	nulls, names := make([]api.Value, api.MaxList), make([]string, api.MaxList)
	for _, c := range []struct{ at, beyond api.Value }{
		{text(long), text(long + "s")},
		{enum(long), enum(long + "s")},
		{vari(long), vari(long + "s")},
		{refer(long), refer(long + "s")},
		{object([]string{name}, null()), object([]string{name + "n"}, null())},
		{object([]string{"", name}, null(), null()), object([]string{"", name + "n"}, null(), null())},
		{list(nulls...), list(append(nulls, null())...)},
		{object(names, nulls...), object(append(names, ""), append(nulls, null())...)},
		{list(list(nulls...)), list(list(append(nulls, null())...))},
	} {
		r := wire.Read(writer().Value(c.at).Done())
		if got := r.Value(); !wire.Same(got, c.at) || !r.End() || !wire.Form(c.at) {
			t.Errorf("at the limit: End %v, Form %v", r.End(), wire.Form(c.at))
		}
		bad(t, ofValue, append(writer().Value(c.beyond).Done(), make([]byte, 300)...))
		if wire.Form(c.beyond) {
			t.Errorf("beyond the limit: Form")
		}
	}
}

// atDepth checks a value that is nested as deep as may be, and one that is nested deeper.
func atDepth(t *testing.T, what string, deep, beyond api.Value) {
	t.Helper()
	r := wire.Read(writer().Value(deep).Done())
	if got := r.Value(); !wire.Same(got, deep) || !r.End() || !wire.Form(deep) {
		t.Errorf("%s at the limit: End %v, Form %v", what, r.End(), wire.Form(deep))
	}
	bad(t, ofValue, append(writer().Value(beyond).Done(), make([]byte, 300)...))
	if wire.Form(beyond) {
		t.Errorf("%s beyond the limit: Form", what)
	}
}

// P3.2, P3.3: how many values may be within one another, of whatever kind the innermost one is.
func TestNest(t *testing.T) {
	kinds := []api.Value{null(), num(1), text("x"), truth(1), enum("A"), list(), object(nil), vari("v"), refer("1")}
	for kind, v := range kinds {
		if int(v.Kind) != kind {
			t.Fatalf("the kind %d is not tested", kind)
		}
		for _, objects := range []bool{false, true} {
			deep := inside(api.MaxNest-1, objects, v)
			for _, beyond := range []api.Value{list(deep), object([]string{"k"}, deep), inside(2, objects, deep), inside(200, objects, deep)} {
				atDepth(t, "kind "+spaced([]byte{v.Kind}), deep, beyond)
			}
			lists := api.MaxNest - 2
			atDepth(t, "lists around objects", inside(lists, false, inside(1, objects, v)), inside(lists+1, false, inside(1, objects, v)))
			atDepth(t, "objects around lists", inside(lists, true, inside(1, objects, v)), inside(lists+1, true, inside(1, objects, v)))
		}
	}
}

// P3.2, P3.3: what stands beside a value is not around it, and one element that is nested too deep is enough.
func TestNestSideBySide(t *testing.T) {
	a, b := inside(api.MaxNest-2, false, null()), inside(api.MaxNest-2, true, num(1))
	atDepth(t, "two in a list", list(a, b), list(a, list(b)))
	atDepth(t, "two in a list", list(b, a, null()), list(list(b), a, null()))
	atDepth(t, "two in an object", object([]string{"a", "b"}, a, b), object([]string{"a", "b"}, a, list(b)))
	innermost := list(null(), num(1), text("x"))
	atDepth(t, "many in the innermost list", inside(api.MaxNest-2, false, innermost), inside(api.MaxNest-1, false, innermost))
	r := wire.Read(writer().Value(list(a, b)).Value(list(b, a)).Done())
	if x, y := r.Value(), r.Value(); !wire.Same(x, list(a, b)) || !wire.Same(y, list(b, a)) || !r.End() {
		t.Errorf("two deep values, one after the other: End %v", r.End())
	}
}

// P3.2: the fields of an entity are encoded as an object, which is a value around them.
func TestNestInEntity(t *testing.T) {
	for _, v := range []api.Value{null(), num(1), list(), object(nil)} {
		for _, objects := range []bool{false, true} {
			x := api.Entity{K: []string{"j", "k"}, L: []api.Value{null(), inside(api.MaxNest-2, objects, v)}}
			r := wire.Read(writer().Entity(x).Done())
			if got := r.Entity(); !r.End() || !wire.Same(list(got.L...), list(x.L...)) {
				t.Errorf("a field at the limit: End %v", r.End())
			}
			x.L[1] = inside(api.MaxNest-1, objects, v)
			bad(t, ofEntity, append(writer().Entity(x).Done(), make([]byte, 300)...))
		}
	}
}

// P3.2: entities that are none.
func TestBadEntities(t *testing.T) {
	for _, s := range []string{
		"01 41 01 31 00", "01 41 01 31 01 02", "01 41 01 31 05 00", "01 41 01 31 07 01 61", // no object
		"01 41 01 31 06 02 01 61 00 01 61 00", "01 41 01 31 06 02 01 62 00 01 61 00", "01 41 01 31 06 02 02 61 61 00 01 61 00", "01 41 01 31 06 02 00 00 00 00",
		"01 41 01 31 06 03 01 61 00 01 63 00 01 62 00", "01 41 01 31 06 03 01 61 00 01 62 00 01 62 00", // names
	} {
		bad(t, ofEntity, raw(t, s+" 00 00"))
	}
	typ, id := strings.Repeat("t", api.MaxName), strings.Repeat("i", api.MaxString)
	name := strings.Repeat("n", api.MaxName)
	x := api.Entity{Type: typ, ID: id, K: []string{"a", name}, L: []api.Value{null(), null()}}
	r := wire.Read(writer().Entity(x).Done())
	if got := r.Entity(); got.Type != typ || got.ID != id || !r.End() {
		t.Errorf("an entity at the limits: %v", got)
	}
	bad(t, ofEntity, writer().Entity(api.Entity{Type: typ + "t", ID: "1"}).Done())
	bad(t, ofEntity, writer().Entity(api.Entity{Type: "A", ID: id + "i"}).Done())
	bad(t, ofEntity, writer().Entity(api.Entity{Type: "A", ID: "1", K: []string{name + "n"}, L: []api.Value{null()}}).Done())
}

// P3.2: Bad and End.
func TestEnd(t *testing.T) {
	for _, p := range [][]byte{nil, {}} {
		if r := wire.Read(p); r.Bad() || !r.End() {
			t.Errorf("nothing to read: Bad %v, End %v", r.Bad(), r.End())
		}
	}
	r := wire.Read(raw(t, "01 02 01 61"))
	for i, read := range []func() bool{func() bool { return r.Uint(1) == 1 }, func() bool { return r.Int() == 1 }, func() bool { return r.Text(1) == "a" }} {
		if r.Bad() || r.End() || !read() {
			t.Errorf("read %d: Bad %v, End %v", i, r.Bad(), r.End())
		}
	}
	if r.Bad() || !r.End() {
		t.Errorf("all was read: Bad %v, End %v", r.Bad(), r.End())
	}
	n := r.Uint(math.MaxUint64)
	over(t, "a read beyond the end", r, n == 0)
}

// P1: nil objects.
func TestNil(t *testing.T) {
	var w *wire.Writer
	if w.Uint(1) != nil || w.Int(1) != nil || w.Text("a") != nil || w.Value(list(num(1))) != nil || w.Entity(api.Entity{Type: "A"}) != nil {
		t.Errorf("a nil writer returns one")
	}
	if w.Done() != nil || w.Sealed() != nil {
		t.Errorf("a nil writer has written %v, %v", w.Done(), w.Sealed())
	}
	var r *wire.Reader
	over(t, "a nil reader", r, true)
	if r, e := wire.Open(nil); r != nil || e != api.ErrForm {
		t.Errorf("Open(nil) = %v, %d", r, e)
	}
}

// P3.3: what is set besides what the kind has.
func TestForm(t *testing.T) {
	for _, v := range []api.Value{
		{Kind: api.VRef + 1}, {Kind: 255},
		{N: 1}, {S: "a"}, {K: []string{""}}, {L: []api.Value{{}}},
		truth(2), truth(-1), truth(3), truth(math.MinInt64), truth(math.MaxInt64), truth(256), truth(1 << 32),
		object([]string{"a"}), object(nil, null()), object([]string{"a", "b"}, null()), object([]string{"a"}, null(), null()),
		list(null(), truth(2)), object([]string{"a", "b"}, null(), truth(2)), list(list(api.Value{Kind: 9})),
	} {
		if wire.Form(v) {
			t.Errorf("Form: %v", v)
		}
	}
	for _, c := range []struct {
		v             api.Value
		n, s, k, list bool
	}{
		{null(), false, false, false, false}, {num(1), true, false, false, false}, {truth(1), true, false, false, false},
		{text("a"), false, true, false, false}, {enum("a"), false, true, false, false}, {vari("a"), false, true, false, false}, {refer("a"), false, true, false, false},
		{list(null()), false, false, false, true}, {object([]string{"a"}, null()), false, false, true, true},
	} {
		for i, own := range []bool{c.n, c.s, c.k, c.list} {
			v := c.v
			switch i {
			case 0:
				v.N ^= 1
			case 1:
				v.S = v.S + "b"
			case 2:
				v.K = append([]string{"c"}, v.K...)
			case 3:
				v.L = append([]api.Value{{}}, v.L...)
			}
			if i >= 2 && v.Kind == api.VObject {
				own = false // one without the other
			}
			if !wire.Form(c.v) || wire.Form(v) != own {
				t.Errorf("Form of %v = %v", v, wire.Form(v))
			}
		}
	}
	for _, v := range []api.Value{{K: []string{}, L: []api.Value{}}, {Kind: api.VList, K: []string{}, L: []api.Value{}}, {Kind: api.VObject, K: []string{}}, num(math.MinInt64), text("\x00\xff")} {
		if !wire.Form(v) {
			t.Errorf("no Form: %v", v)
		}
	}
}

// P3.3: one difference anywhere is enough.
func TestSame(t *testing.T) {
	var all []api.Value
	for _, v := range values() {
		all = append(all, v)
	}
	all = append(all, num(0), text("a"), enum("a"), vari("a"), vari("A"), refer("a"), text("1"), list(num(1)), list(num(2)), list(num(1), num(2)), list(num(2), num(1)),
		object([]string{"a"}, num(1)), object([]string{"b"}, num(1)), object([]string{"a"}, num(2)), object([]string{"a", "b"}, num(1), num(2)), object([]string{"b", "a"}, num(2), num(1)),
		object([]string{"a", "b"}, num(1), list(num(2), list(text("x")))), object([]string{"a", "b"}, num(1), list(num(2), list(text("y")))))
	for i, a := range all {
		for k, b := range all {
			if got := wire.Same(a, b); got != (i == k) {
				t.Errorf("Same(%v, %v) = %v", a, b, got)
			}
		}
	}
	if !wire.Same(api.Value{Kind: api.VList, K: []string{}, L: []api.Value{}}, list()) || !wire.Same(list(null()), list(api.Value{K: []string{}, L: []api.Value{}})) {
		t.Errorf("nil and empty differ")
	}
}

// random returns some value, mostly with Form.
func random(r *rand.Rand, deep int) api.Value {
	v := api.Value{Kind: byte(r.Intn(9))}
	switch v.Kind {
	case api.VInt:
		v.N = int64(r.Uint64()) >> r.Intn(64)
	case api.VBool:
		v.N = int64(r.Intn(2))
	case api.VText, api.VEnum, api.VVar, api.VRef:
		v.S = strings.Repeat("s", r.Intn(4))
	case api.VList, api.VObject:
		for i := range r.Intn(4) * min(deep, 1) {
			v.L = append(v.L, random(r, deep-1))
			if v.Kind == api.VObject {
				v.K = append(v.K, strings.Repeat("k", i))
			}
		}
	}
	switch r.Intn(40) {
	case 0:
		v.N = int64(r.Intn(5)) - 1
	case 1:
		v.S = strings.Repeat("x", r.Intn(2)*(api.MaxString-1)+r.Intn(3))
	case 2:
		v.K = append(v.K, strings.Repeat("x", api.MaxName-1+r.Intn(3)))
	case 3:
		v.L = append(v.L, null())
	case 4:
		v.Kind = byte(r.Intn(11))
	}
	return v
}

// regular is equality of all fields, which a fault in Same would not hide.
func regular(a, b api.Value) bool {
	if a.Kind != b.Kind || a.N != b.N || a.S != b.S || len(a.K) != len(b.K) || len(a.L) != len(b.L) {
		return false
	}
	for i := range a.K {
		if a.K[i] != b.K[i] {
			return false
		}
	}
	for i := range a.L {
		if !regular(a.L[i], b.L[i]) {
			return false
		}
	}
	return true
}

// P3.3: Form is what is read back as it was written.
func TestFormIsReadBack(t *testing.T) {
	r := rand.New(rand.NewSource(3))
	count := [2]int{}
	for range 30000 {
		v := random(r, 4)
		reader := wire.Read(writer().Value(v).Done())
		got := reader.Value()
		back := reader.End() && regular(got, v)
		if wire.Form(v) != back {
			t.Fatalf("Form of %v = %v; read %v, End %v", v, wire.Form(v), got, reader.End())
		}
		if back {
			count[0]++
			if w := random(r, 4); !wire.Same(got, v) || wire.Same(v, w) != regular(v, w) {
				t.Fatalf("Same of %v and %v, %v", v, got, w)
			}
		} else {
			count[1]++
		}
	}
	if count[0] < 3000 || count[1] < 3000 {
		t.Errorf("one-sided: %d", count)
	}
}

// P1, P3.2: any bytes are read without a panic, and what is read is written as it was.
func TestAnyBytes(t *testing.T) {
	r := rand.New(rand.NewSource(4))
	good := 0
	for range 100000 {
		p := make([]byte, r.Intn(24))
		for i := range p {
			p[i] = byte(r.Intn(1 + r.Intn(10)))
			if r.Intn(20) == 0 {
				p[i] = byte(r.Intn(256))
			}
		}
		for _, entity := range []bool{false, true} {
			reader, w := wire.Read(p), writer()
			if entity {
				w.Entity(reader.Entity())
			} else {
				w.Value(reader.Value())
			}
			if !reader.Bad() {
				good++
				if q := w.Done(); !bytes.HasPrefix(p, q) || reader.End() != (len(p) == len(q)) {
					t.Fatalf("%s is written as %s", spaced(p), spaced(q))
				}
			}
		}
	}
	if good < 10000 {
		t.Errorf("only %d were read", good)
	}
}

// P1: depth is no danger, nor are objects that are none.
func TestStrangeValues(t *testing.T) {
	const deep = 1000000
	v := inside(deep, false, num(1))
	if got := writer().Value(v).Done(); string(got) != strings.Repeat("\x05\x01", deep)+"\x01\x02" {
		t.Errorf("wrote %d bytes", len(got))
	}
	if !wire.Same(v, inside(deep, false, num(1))) || wire.Same(v, inside(deep, false, num(2))) || wire.Form(v) {
		t.Errorf("a deep value")
	}
	for _, v := range []api.Value{object([]string{"a"}), object(nil, null()), object([]string{"a", "b"}, list(object([]string{"a"}))), {Kind: 77, N: 1, L: []api.Value{{}}}} {
		w := writer().Value(v).Entity(api.Entity{K: v.K, L: v.L})
		if len(w.Done()) == 0 || len(w.Sealed()) == 0 || !wire.Same(v, v) {
			t.Errorf("%v", v)
		}
	}
}

// The rule of memory.
func TestMemory(t *testing.T) {
	p := writer().Text("abc").Value(list(text("d"))).Sealed()
	q := bytes.Clone(p)
	r, _ := wire.Open(p)
	s := wire.Read(p)
	if !bytes.Equal(p, q) {
		t.Errorf("the argument is now %s", spaced(p))
	}
	clear(p[:cap(p)])
	for _, r := range []*wire.Reader{r, s} {
		if a, b := r.Text(3), r.Value(); a != "abc" || !regular(b, list(text("d"))) {
			t.Errorf("read %q, %v, of what is no longer there", a, b)
		}
	}
	for n := range 40 {
		w := writer()
		for i := range n {
			w.Uint(uint64(i))
		}
		done, sealed := w.Done(), w.Sealed()
		wantDone, wantSealed := bytes.Clone(done), bytes.Clone(sealed)
		for _, p := range [][]byte{w.Done(), w.Sealed()} {
			p = p[:cap(p)]
			for k := range p {
				p[k] = '!'
			}
		}
		if got := w.Sealed(); !bytes.Equal(w.Done(), wantDone) || !bytes.Equal(got, wantSealed) {
			t.Errorf("%d bytes can be changed from outside: %v", n, got)
		}
		w.Uint(1 << 40)
		if !bytes.Equal(done, wantDone) || !bytes.Equal(sealed, wantSealed) {
			t.Errorf("%d bytes share memory with later ones: %v, %v", n, done, sealed)
		}
	}
}

// P2: a writer and a reader hang on nothing else.
func TestSideBySide(t *testing.T) {
	a, b := writer(), writer()
	for i := range 50 {
		a.Uint(uint64(i)).Text("a")
		b.Uint(uint64(i) * 1000).Text("bb")
		sealed := a.Sealed()
		b.Sealed()
		if got := a.Sealed(); !bytes.Equal(got, sealed) {
			t.Fatalf("step %d: %v, then %v", i, sealed, got)
		}
	}
	r, s := wire.Read(a.Done()), wire.Read(b.Done())
	for i := range 50 {
		x, y := r.Uint(100), s.Uint(100000)
		if c, d := r.Text(1), s.Text(2); x != uint64(i) || y != uint64(i)*1000 || c != "a" || d != "bb" {
			t.Fatalf("step %d: %d, %q; %d, %q", i, x, c, y, d)
		}
	}
}
