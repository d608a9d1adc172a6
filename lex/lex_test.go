package lex_test

import (
	"fmt"
	"math/rand"
	"slices"
	"strings"
	"testing"

	"columbary/api"
	"columbary/lex"
)

func name(s string, at int) lex.Token { return lex.Token{Kind: lex.Name, Text: s, At: at} }
func sign(s string, at int) lex.Token { return lex.Token{Kind: lex.Sign, Text: s, At: at} }
func text(s string, at int) lex.Token { return lex.Token{Kind: lex.Text, Text: s, At: at} }
func end(at int) lex.Token            { return lex.Token{At: at} }

func number(s string, n int64, at int) lex.Token {
	return lex.Token{Kind: lex.Int, Text: s, N: n, At: at}
}

func gives(t *testing.T, s string, want ...lex.Token) {
	t.Helper()
	l, at, e := lex.Tokens(s)
	if e != api.OK || at != 0 || !slices.Equal(l, want) {
		t.Errorf("Tokens(%q) = %v, %d, %d; want %v", s, l, at, e, want)
	}
}

func fails(t *testing.T, s string, at int, e api.Errno) {
	t.Helper()
	if l, a, f := lex.Tokens(s); len(l) != 0 || a != at || f != e {
		t.Errorf("Tokens(%q) = %v, %d, %d; want the offset %d and the error %d", s, l, a, f, at, e)
	}
}

func many(s string, n int) string { return strings.Repeat(s, n) }

// The kinds have the numbers that their order gives.
func TestKinds(t *testing.T) {
	if k := [...]byte{lex.End, lex.Name, lex.Int, lex.Text, lex.Sign}; k != [...]byte{0, 1, 2, 3, 4} {
		t.Errorf("kinds: %v", k)
	}
}

// The chapter's example.
func TestExample(t *testing.T) {
	gives(t, "{a(b:-1)#x", sign("{", 0), name("a", 1), sign("(", 2), name("b", 3), sign(":", 4), number("-1", -1, 5), sign(")", 7), end(10))
}

// P5.1: blanks and comments, also alone; At of the end.
func TestBetween(t *testing.T) {
	gives(t, "", end(0))
	for _, s := range []string{" ", "\t", "\n", "\r", ",", " ,\t,\r\n,, ", "#", "##", "# x", "#\n", "#x\n#y", "\n#\n", "#\r", "#\x00\xff\"\\é.-1", "#\n\n#,\n "} {
		gives(t, s, end(len(s)))
		if strings.Contains(s, "#") && !strings.HasSuffix(s, "\n") {
			s += "\n"
		}
		gives(t, s+"a"+s, name("a", len(s)), end(2*len(s)+1))
		gives(t, "7"+s+"!", number("7", 7, 0), sign("!", len(s)+1), end(len(s)+2))
	}
	gives(t, "a#b\rc\nd", name("a", 0), name("d", 6), end(7))
	gives(t, "a,b c\td\re\nf", name("a", 0), name("b", 2), name("c", 4), name("d", 6), name("e", 8), name("f", 10), end(11))
}

// P5.1: names; each as long as possible.
func TestNames(t *testing.T) {
	for _, s := range []string{"a", "z", "A", "Z", "_", "__", "_9", "a0", "query", "on", "null", "aZ_09", "m5x"} {
		gives(t, s, name(s, 0), end(len(s)))
	}
	gives(t, "ab,c1 d_", name("ab", 0), name("c1", 3), name("d_", 6), end(8))
	gives(t, "a-1", name("a", 0), number("-1", -1, 1), end(3))
	gives(t, `a"b"c`, name("a", 0), text("b", 1), name("c", 4), end(5))
	for b := range 256 {
		s := "a" + string([]byte{byte(b)})
		if strings.IndexByte("abcdefghijklmnopqrstuvwxyzABCDEFGHIJKLMNOPQRSTUVWXYZ_0123456789", byte(b)) >= 0 {
			gives(t, s, name(s, 0), end(2))
		} else if l, _, e := lex.Tokens(s); e == api.OK && l[0] != name("a", 0) {
			t.Errorf("Tokens(%q) = %v", s, l)
		}
	}
}

// P5.2: a name of MaxName bytes, and of more.
func TestLongNames(t *testing.T) {
	long := many("a", api.MaxName)
	gives(t, "{"+long+"}", sign("{", 0), name(long, 1), sign("}", 33), end(34))
	gives(t, long+"!"+long, name(long, 0), sign("!", 32), name(long, 33), end(65))
	fails(t, long+"a", 0, api.ErrLong)
	fails(t, " "+long+"9", 1, api.ErrLong)
	fails(t, "{ "+many("_", 1000), 2, api.ErrLong)
	fails(t, long+"b ?", 0, api.ErrLong)
	fails(t, "? "+long+"b", 0, api.ErrText)
}

// P5.1: numbers.
func TestNumbers(t *testing.T) {
	for s, n := range map[string]int64{
		"0": 0, "-0": 0, "1": 1, "-1": -1, "9": 9, "10": 10, "100": 100, "-900": -900, "1234567890": 1234567890,
		"2147483648": 2147483648, "123456789012345678": 123456789012345678, "999999999999999999": 999999999999999999, "-999999999999999999": -999999999999999999,
	} {
		gives(t, s, number(s, n, 0), end(len(s)))
		gives(t, " "+s+"]", number(s, n, 1), sign("]", len(s)+1), end(len(s)+2))
	}
	gives(t, "0-1-2", number("0", 0, 0), number("-1", -1, 1), number("-2", -2, 3), end(5))
	gives(t, "1,2 3#4", number("1", 1, 0), number("2", 2, 2), number("3", 3, 4), end(7))
	gives(t, `1"1"`, number("1", 1, 0), text("1", 1), end(4))
	gives(t, "5$", number("5", 5, 0), sign("$", 1), end(2))
}

// P5.2: the faults of a number.
func TestNumberFaults(t *testing.T) {
	for s, at := range map[string]int{
		"-": 1, "--1": 1, "-a": 1, "- 1": 1, "-,1": 1, "-#1": 1, "-.1": 1, "-\n": 1, "-\"": 1, "-\xff": 1, "1 -": 3, "1-": 2,
		"00": 1, "01": 1, "-00": 2, "-01": 2, "007": 1, "01a": 1, "01.5": 1, "00000000000000000000": 1, "-0123456789012345678901": 2,
		"0a": 1, "1a": 1, "12_": 2, "-3Z": 2, "7z": 1, "7A": 1, "0.": 1, "1.5": 1, "1...": 1, "-12.": 3, "1e5": 1, "0x1": 1,
		"12345678901234567890a": 20, "12345678901234567890.": 20, "-12345678901234567890_": 21, "123456789012345678a": 18,
	} {
		fails(t, s, at, api.ErrText)
		fails(t, "a: ["+s, at+4, api.ErrText)
	}
}

// P5.2: 18 digits, and more.
func TestLongNumbers(t *testing.T) {
	for _, s := range []string{"1000000000000000000", "1234567890123456789", "9999999999999999999999", "-1000000000000000000", "1" + many("0", 999)} {
		fails(t, s, 0, api.ErrArg)
		fails(t, "[1, "+s+" ?", 4, api.ErrArg)
		fails(t, s+`"`, 0, api.ErrArg)
		fails(t, "? "+s, 0, api.ErrText)
	}
	long := many("9", 19)
	for b := range 256 {
		s := long + string([]byte{byte(b)})
		if strings.IndexByte(".abcdefghijklmnopqrstuvwxyzABCDEFGHIJKLMNOPQRSTUVWXYZ_", byte(b)) >= 0 {
			fails(t, s, 19, api.ErrText)
		} else {
			fails(t, s, 0, api.ErrArg)
		}
	}
}

// P5.1: strings, and what stands in them for what.
func TestTexts(t *testing.T) {
	for s, want := range map[string]string{
		`""`: "", `" "`: " ", `"abc"`: "abc", `"a,b #c"`: "a,b #c", `"\""`: `"`, `"\\"`: `\`, `"\/"`: "/", `"/"`: "/", `"\n"`: "\n", `"\t"`: "\t",
		`"\\n"`: `\n`, `"\\\""`: `\"`, `"x\ty\nz"`: "x\ty\nz", `"\n\n"`: "\n\n", `"n\\t\/\""`: `n\t/"`, "\"\t\r\x00\x7f\"": "\t\r\x00\x7f", "\"é\xff\"": "é\xff", `"...{1"`: "...{1",
	} {
		gives(t, s, text(want, 0), end(len(s)))
		gives(t, "a"+s+"b", name("a", 0), text(want, 1), name("b", len(s)+1), end(len(s)+2))
	}
	gives(t, `"""a"`, text("", 0), text("a", 2), end(5))
	for b := range 256 {
		c := string([]byte{byte(b)})
		if !strings.Contains("\"\\\n", c) {
			gives(t, `"`+c+`"`, text(c, 0), end(3))
		}
	}
}

// P5.2: the faults of a string.
func TestTextFaults(t *testing.T) {
	for s, at := range map[string]int{
		`"`: 1, `"abc`: 4, `"a" "`: 5, `"""`: 3, `"\"`: 3, `"\n`: 3, `"a\\`: 4,
		"\"\n\"": 1, "\"ab\n": 3, "\"\\t\n": 3, "\"a\n\\x\"": 2,
		`"\`: 2, `"ab\`: 4, `"\n\`: 4, `"\a"`: 2, `"\b"`: 2, `"\r"`: 2, `"\u0041"`: 2, `"\ "`: 2, "\"\\\n\"": 2, `"\N"`: 2, `"\T"`: 2, `"\'"`: 2, `"x\n\q"`: 5, "\"\\\xff\"": 2, "\"\\q\n": 2,
	} {
		fails(t, s, at, api.ErrText)
		fails(t, "(a:"+s, at+3, api.ErrText)
	}
	for b := range 256 {
		c := string([]byte{byte(b)})
		if !strings.Contains(`"\/nt`, c) {
			fails(t, `"a\`+c+`"`, 3, api.ErrText)
		}
	}
}

// P5.2: contents of MaxString bytes, and of more; a fault in such a string, or its missing end, is reported instead.
func TestLongTexts(t *testing.T) {
	for _, c := range [][2]string{{"a", "a"}, {`\n`, "\n"}, {`\"`, `"`}, {" ", " "}, {"\xff", "\xff"}} {
		s := `"` + many(c[0], api.MaxString) + `"`
		gives(t, s, text(many(c[1], api.MaxString), 0), end(len(s)))
		long := `"` + many(c[0], api.MaxString+1)
		fails(t, long+`"`, 0, api.ErrLong)
		fails(t, "[ "+long+`" ?`, 2, api.ErrLong)
		fails(t, long, len(long), api.ErrText)
		fails(t, long+"\n\"", len(long), api.ErrText)
		fails(t, long+`\q"`, len(long)+1, api.ErrText)
		fails(t, long+`\`, len(long)+1, api.ErrText)
	}
	fails(t, `"`+many("é", 101)+`"`, 0, api.ErrLong)
	fails(t, `"`+many("a", 1900)+`"`, 0, api.ErrLong)
}

// P5.1: the signs.
func TestSigns(t *testing.T) {
	for _, s := range []string{"...", "!", "$", "(", ")", ":", "=", "@", "[", "]", "{", "|", "}", "&"} {
		gives(t, s, sign(s, 0), end(len(s)))
		gives(t, s+s, sign(s, 0), sign(s, len(s)), end(2*len(s)))
		gives(t, "a"+s+"b", name("a", 0), sign(s, 1), name("b", len(s)+1), end(len(s)+2))
		gives(t, s+"-1", sign(s, 0), number("-1", -1, len(s)), end(len(s)+2))
	}
	gives(t, "!$():=@[]{|}&...", sign("!", 0), sign("$", 1), sign("(", 2), sign(")", 3), sign(":", 4), sign("=", 5), sign("@", 6), sign("[", 7), sign("]", 8), sign("{", 9), sign("|", 10), sign("}", 11), sign("&", 12), sign("...", 13), end(16))
	gives(t, "......", sign("...", 0), sign("...", 3), end(6))
	fails(t, ".", 0, api.ErrText)
	fails(t, "..", 0, api.ErrText)
	fails(t, ".. .", 0, api.ErrText)
	fails(t, "....", 3, api.ErrText)
	fails(t, ".....", 3, api.ErrText)
	fails(t, "a.b", 1, api.ErrText)
}

// P5.2: at each byte a token begins, or none does.
func TestFirstBytes(t *testing.T) {
	begins := "abcdefghijklmnopqrstuvwxyzABCDEFGHIJKLMNOPQRSTUVWXYZ_0123456789!$():=@[]{|}&"
	for b := range 256 {
		s := string([]byte{byte(b)})
		l, at, e := lex.Tokens(s)
		switch {
		case strings.Contains(" \t\n\r,#", s):
			gives(t, s, end(1))
		case s == "-" || s == "\"":
			fails(t, s, 1, api.ErrText)
		case strings.IndexByte(begins, byte(b)) < 0:
			fails(t, s, 0, api.ErrText)
			fails(t, "a "+s+" ?", 2, api.ErrText)
		case e != api.OK || at != 0 || len(l) != 2 || l[0].Text != s || l[0].At != 0 || l[1] != end(1):
			t.Errorf("Tokens(%q) = %v, %d, %d", s, l, at, e)
		}
	}
}

// P5.2: a text of MaxText bytes, and of more, whatever is in it.
func TestLong(t *testing.T) {
	for _, s := range []string{" ", "#", "!"} {
		l, at, e := lex.Tokens(many(s, api.MaxText))
		if e != api.OK || at != 0 || l[len(l)-1] != end(api.MaxText) {
			t.Errorf("%d times %q: %d tokens, %d, %d", api.MaxText, s, len(l), at, e)
		}
		if want := api.MaxText + 1; s == "!" && len(l) != want {
			t.Errorf("%d tokens, want %d", len(l), want)
		}
	}
	for _, s := range []string{" ", "a", "?", "1", "\"", "\xff", "..."} {
		fails(t, many(s, api.MaxText+1), 0, api.ErrLong)
	}
	fails(t, "a?"+many(" ", api.MaxText), 0, api.ErrLong)
	fails(t, many(" ", api.MaxText-1)+"?", api.MaxText-1, api.ErrText)
	fails(t, many(" ", api.MaxText-1)+"-", api.MaxText, api.ErrText)
}

// P5.2: the first fault from the left is reported.
func TestFirstFault(t *testing.T) {
	faults := []struct {
		s  string
		at int
		e  api.Errno
	}{{"?", 0, api.ErrText}, {"01", 1, api.ErrText}, {"-", 1, api.ErrText}, {`"\q"`, 2, api.ErrText}, {many("a", 33), 0, api.ErrLong}, {`"` + many("a", 201) + `"`, 0, api.ErrLong}, {many("1", 19), 0, api.ErrArg}}
	for _, a := range faults {
		for _, b := range faults {
			fails(t, "{ "+a.s+" "+b.s, a.at+2, a.e)
		}
	}
}

// P2: the same text gives the same tokens, in new memory.
func TestNewMemory(t *testing.T) {
	a, _, _ := lex.Tokens("{a}")
	b, _, _ := lex.Tokens("{a}")
	a[0] = number("5", 5, 5)
	_ = append(a[:1], a[0], a[0], a[0], a[0])
	if want := []lex.Token{sign("{", 0), name("a", 1), sign("}", 2), end(3)}; !slices.Equal(b, want) {
		t.Errorf("changed through another result: %v", b)
	}
}

// differs holds the lexer against the plainly written one.
func differs(t *testing.T, s string) {
	t.Helper()
	l, at, e := lex.Tokens(s)
	m, bt, f := plainly(s)
	if got, want := fmt.Sprint(l, at, e), fmt.Sprint(m, bt, f); got != want {
		t.Fatalf("Tokens(%q) = %s; want %s", s, got, want)
	}
}

// P5.1, P5.2: all short texts of some bytes, and all of two bytes.
func TestAllShort(t *testing.T) {
	const bytes = "a0 1-.\"\\n#\n{"
	all := []string{""}
	for range 5 {
		var longer []string
		for _, s := range all {
			for i := range len(bytes) {
				longer = append(longer, s+bytes[i:i+1])
			}
		}
		for _, s := range longer {
			differs(t, s)
		}
		all = longer
	}
	for a := range 256 {
		for b := range 256 {
			differs(t, string([]byte{byte(a), byte(b)}))
		}
	}
}

// P5.1, P5.2: random texts of parts that fit together, and of some that do not.
func TestRandom(t *testing.T) {
	random := rand.New(rand.NewSource(5))
	good := []string{"a", "B9", "_x", many("n", 31), many("n", 32), "0", "-0", "17", "-123456789012345678", `""`, `"a\n"`, `"\\\"\/\t"`, `"#"`, `"` + many("s", 200) + `"`, `"` + many(`\\`, 199) + `"`, "...", "!", "$", "(", ")", ":", "=", "@", "[", "]", "{", "|", "}", "&", " ", ",", "\n", "\r", "\t", "#c\n", "# d\"\n"}
	bad := []string{"-", "00", "0", "12345678901234567890", "\"", "\\", "\n", "\"\\", "a", ".", "?", "é", many("l", 33), `"` + many("s", 201) + `"`, `"` + many("s", 201), "-01"}
	for range 20000 {
		var s strings.Builder
		for range random.Intn(12) {
			s.WriteString(good[random.Intn(len(good))])
			if random.Intn(3) > 0 {
				s.WriteString(" ")
			}
			if random.Intn(25) == 0 {
				s.WriteString(bad[random.Intn(len(bad))])
			}
		}
		differs(t, s.String())
	}
}
