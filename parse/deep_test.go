package parse_test

import (
	"testing"

	"columbary/api"
)

const nest = api.MaxNest

// in puts a text into so many selection sets, which it must close itself.
func in(n int, s string) string { return many("{a", n-1) + "{" + s }

// P6.1: MaxNest selection sets.
func TestNestedSets(t *testing.T) {
	end := many("}", nest)
	valid(t, in(nest, "a")+end)
	valid(t, in(nest, "b:a@c@d...F@d@e")+end)
	valid(t, "mutation M"+in(nest, "a")+end+"fragment F on T"+in(nest, "a")+end+in(nest, "a")+end)
	valid(t, many("{...", nest-1)+"{a"+end)
	valid(t, many("{...on T@d", nest-1)+"{a"+end)
	valid(t, in(nest-1, many("a{a}...{a}...on T{a}", 20))+many("}", nest-1))
}

// P6.1: a selection set too deep; after a field only if it is there.
func TestDeepSets(t *testing.T) {
	for _, s := range []string{"{a}", "{}", "{", "{1", "{{", "{}}}"} {
		failsAt(t, api.ErrDeep, in(nest, "a^")+s, in(nest, "b c:a@d^")+s)
	}
	failsAt(t, api.ErrDeep, in(nest, "a^")+many("{a", 9), in(nest-1, "a{a}b{a")+"^{a")
	failsAt(t, api.ErrText, in(nest, "^}"), in(nest, "^"), in(nest, "^{"), in(nest, "a:^{"), in(nest, "a@^{"), in(nest, "a(^{"), in(nest, "a^!"), in(nest, "a:b^:"), in(nest, "...F^{a}"), in(nest, "...on^{a}"), in(nest, "...on^"), in(nest, "...on^@d{a}"), in(nest, "...@^{a}"))
}

// P6.1: the depth of an inline fragment's selection set is checked before the token, whatever that is.
func TestDeepInlines(t *testing.T) {
	for _, s := range []string{"{a}", "}", "1", ")", ":", `"F"`, "", "!", "[", "$", "...F", "&"} {
		for _, head := range []string{"... ^", "a...on T ^", "...@d ^", "...on T@d@e ^"} {
			failsAt(t, api.ErrDeep, in(nest, head)+s)
			if s != "{a}" {
				failsAt(t, api.ErrText, in(nest-1, head)+s)
			}
		}
	}
	failsAt(t, api.ErrDeep, in(nest, "...^(a:1){a}"), in(nest, "...@d^ F"), in(nest, "...@d^ on T{a}"), in(nest, "...on T^ U{a}"), many("{...", nest)+"^{a")
	failsAt(t, api.ErrText, in(nest-1, "...^(a:1){a}"), in(nest-1, "...@d^ F"), in(nest-1, "...@d^ on T{a}"), in(nest-1, "...on T^ U{a}"))
}

// P6.1: values count along with the selection sets around them.
func TestNestedValues(t *testing.T) {
	for sets := 1; sets < nest; sets++ {
		lists := nest - sets - 1 // the value in them counts, too
		open, end := many("[", lists), many("]", lists)+")"+many("}", sets)
		for _, at := range []string{"a(b:", "c:a@d(b:", "...F@d@e(b:"} {
			valid(t, in(sets, at)+open+"1"+end)
			valid(t, in(sets, at)+open+"[]"+end)
			valid(t, in(sets, at)+many("{c:", lists)+"$a"+many("}", lists)+")"+many("}", sets))
			if lists > 0 {
				valid(t, in(sets, at)+open+"1 $a,[]{}[]E"+end)
			}
		}
	}
}

// P6.1: a value too deep, whatever is there; but the end of a list is none.
func TestDeepValues(t *testing.T) {
	for sets := 1; sets <= nest; sets++ {
		lists := nest - sets
		for _, at := range []string{"a(b:", "c:a@d(b:", "...F@d@e(b:", "...@d(b:", "...on T@d(b:"} {
			for _, s := range []string{"1", "$a", "[]", "{}", ")", "null", "", ":", "}", `""`, "!", "["} {
				failsAt(t, api.ErrDeep, in(sets, at)+many("[", lists)+"^"+s, in(sets, at)+many("{c:", lists)+"^"+s)
			}
		}
		if lists > 0 {
			failsAt(t, api.ErrText, in(sets, "a(b:")+many("[", lists)+many("]", lists)+"^]", in(sets, "a(b:")+many("{c:", lists-1)+"{^1", in(sets, "a(b:")+many("{c:", lists-1)+"{c^ 1", in(sets, "a(b:")+many("{c:", lists-1)+"{}^1")
		}
		if lists > 1 {
			failsAt(t, api.ErrDeep, in(sets, "a(b:")+many("[", lists-1)+"[][],[^1]", in(sets, "a(b:")+many("[", lists-1)+"{c:^1}", in(sets, "a(b:")+many("[", lists-1)+"{}{c:^}")
		}
	}
	failsAt(t, api.ErrText, in(nest, "a(^"), in(nest, "a(^)"), in(nest, "a(b^)"), in(nest, "a(b^ 1"))
}

// P6.1: types and defaults in variables have nothing open around them.
func TestDeepVariables(t *testing.T) {
	n := nest - 1
	valid(t, "query($a:"+many("[", n)+"B"+many("]", n)+"){a}")
	valid(t, "query($a:"+many("[", n)+"B!"+many("]!", n)+"="+many("[", n)+"1 2[]"+many("]", n)+"$b:"+many("[", n)+"B"+many("]", n)+"={c:1}"+"){a}")
	valid(t, "query($a:B="+many("{c:", n)+"{}"+many("}", n)+"){a}")
	valid(t, "query($a:B="+many("[", n+1)+many("]", n+1)+"){a}")
	for _, s := range []string{"B", "B]", "[B]", "]", ")", "", "1", "!", "{"} {
		failsAt(t, api.ErrDeep, "query($a:"+many("[", nest)+"^"+s)
		failsAt(t, api.ErrDeep, "{a}query($a:B $b:"+many("[", nest)+"^"+s)
	}
	for _, s := range []string{"1", "1]", "$a", "[]", "", ")", "!", "{}"} {
		failsAt(t, api.ErrDeep, "query($a:B="+many("[", nest)+"^"+s)
		failsAt(t, api.ErrDeep, "query($a:B=[1],$b:B="+many("{c:", nest)+"^"+s)
	}
}

// P6.1: what is closed does not count any more.
func TestClosed(t *testing.T) {
	valid(t, "query($a:[[B]]$b:[[B]]){"+many("a(b:[[[1]]]c:{d:{e:[]}}){a{a}}", 30)+"}")
	valid(t, many("query($a:[[B]]=[{c:1}]){a{b{c}}}", 30))
}
