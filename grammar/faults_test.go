package grammar

import (
	"math/rand"
	"slices"
	"strings"
	"testing"

	"columbary/api"
	"columbary/parse"
	"columbary/print"
	"columbary/sdl"
)

// language is a parser, of which only the faults are asked, with the rule that it is held against.
type language struct {
	parse func(s string) (int, api.Errno)
	rule  rule
	words string // some of each kind
}

func documents() language {
	return language{func(s string) (int, api.Errno) {
		_, at, e := parse.Document(s)
		return at, e
	}, document(), `{ } ( ) : ... @ $ = [ ] ! | & a on query mutation fragment null 1 "s"`}
}

func declarations() language {
	return language{func(s string) (int, api.Errno) {
		_, at, e := sdl.Types(s)
		return at, e
	}, types(), `{ } ( ) : ... @ $ = [ ] ! | & a type implements interface union enum input true null 1 "s"`}
}

// check returns where the first fault is.
func (g language) check(t *testing.T, s string) (int, api.Errno) {
	t.Helper()
	at, e := g.parse(s)
	if want, we := fault(g.rule, s); at != want || e != we {
		t.Fatalf("%q: %d at %d; want %d at %d", s, e, at, we, want)
	}
	return at, e
}

// explore checks a text with up to so many more words behind it; after a fault in what is there already, no more of them matter.
func (g language) explore(t *testing.T, s string, more int) {
	t.Helper()
	at, e := g.check(t, s)
	if more == 0 || e != api.OK && at < len(s) {
		return
	}
	for _, w := range strings.Fields(g.words) {
		g.explore(t, s+" "+w, more-1)
	}
}

func many(s string, n int) string { return strings.Repeat(s, n) }

// P6.1: all short documents, and what may follow some beginnings.
func TestAllDocuments(t *testing.T) {
	g := documents()
	g.explore(t, "", 5)
	for _, s := range []string{"{a", "{...", "{...on", "{...F", "{a@d", "query", "query($a:", "query($a:B", "query($a:B=", "{a}", "{a{b}", "fragment F on T"} {
		g.explore(t, s, 4)
	}
	for _, s := range []string{"{a(", "{a(b:[", "{a(b:{", "query($a:B=[", "{a@d(b:"} {
		g.explore(t, s, 4)
	}
}

// P6.1: what may follow where MaxNest, or nearly as many, are open.
func TestAllDeepDocuments(t *testing.T) {
	g := documents()
	for n := range 3 {
		sets := many("{a", 21+n)
		for _, s := range []string{"{", "{a", "{...", "{...on T", "{a(b:", "{a@d(b:[", "{...@d", "{a(b:{c:"} {
			g.explore(t, sets+s, 3)
		}
		for _, s := range []string{"query($a:" + many("[", 22+n), "query($a:B=" + many("[", 22+n), "{a(b:" + many("{c:", 21+n), "{a(b:" + many("[", 21+n)} {
			g.explore(t, s, 3)
		}
	}
}

// P7.1: all short declarations, and what may follow some beginnings.
func TestAllDeclarations(t *testing.T) {
	g := declarations()
	g.explore(t, "", 5)
	for _, s := range []string{"type A{", "type A implements", "type A implements B", "type A{a(", "type A{a(b:C=", "type A{a:", "interface A{a:B", "union A=", "union A=B", "enum A{", "input A{", "input A{a:B=", "input A{a:B=[", "input A{a:B={", "type A{a:[", "type A{a:B}"} {
		g.explore(t, s, 4)
	}
	for n := range 3 {
		for _, s := range []string{"type A{a:" + many("[", 22+n), "type A{a(b:" + many("[", 22+n), "input A{a:" + many("[", 22+n), "input A{a:B=" + many("[", 22+n), "input A{a:B=" + many("{c:", 22+n)} {
			g.explore(t, s, 3)
		}
	}
}

// mangled takes out a token, puts one in, or changes one, once or twice.
func (g language) mangled(r *rand.Rand, l []string) string {
	words := strings.Fields(g.words)
	for range 1 + r.Intn(2) {
		i := r.Intn(len(l) + 1)
		j := min(i+r.Intn(2), len(l))
		in := words[:r.Intn(2)]
		if len(in) > 0 {
			in = []string{words[r.Intn(len(words))]}
		}
		l = slices.Concat(l[:i], in, l[j:])
	}
	return strings.Join(l, " ")
}

// P6.1, P7.1: longer texts with faults.
func TestMangled(t *testing.T) {
	r := rand.New(rand.NewSource(6))
	documents, declarations := documents(), declarations()
	for range 20000 {
		m := &maker{Rand: r}
		documents.check(t, documents.mangled(r, sources(print.Document(m.document()))))
		declarations.check(t, declarations.mangled(r, sources(print.Types(m.types()))))
	}
}
