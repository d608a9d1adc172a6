package lex_test

import (
	"regexp"
	"strconv"
	"strings"

	"columbary/api"
	"columbary/lex"
)

var (
	skipped = regexp.MustCompile(`^(?:[ \t\n\r,]|#[^\n]*)*`)
	named   = regexp.MustCompile(`^[A-Za-z_][A-Za-z_0-9]*`)
	counted = regexp.MustCompile(`^-?(?:[0-9]+)?`)
	whole   = regexp.MustCompile(`^-?(?:0|[1-9][0-9]*)(?:$|[^A-Za-z_.0-9])`)
	opened  = regexp.MustCompile(`^"(?:[^"\\\n]|\\["\\/nt])*`)
	signed  = regexp.MustCompile(`^(?:\.\.\.|[!$():=@\[\]{|}&])`)
	// What escapes stand for is replaced from the left.
	escapes = strings.NewReplacer(`\"`, `"`, `\\`, `\`, `\/`, `/`, `\n`, "\n", `\t`, "\t")
)

// plainly is a lexer by regular expressions. They are for characters, so each byte is made one first.
func plainly(s string) ([]lex.Token, int, api.Errno) {
	if len(s) > 2000 {
		return nil, 0, api.ErrLong
	}
	wide := make([]rune, len(s))
	for i := range len(s) {
		wide[i] = rune(s[i])
		if s[i] >= 0x80 {
			wide[i] = 0x80
		}
	}
	match := func(r *regexp.Regexp, at int) int { return len([]rune(r.FindString(string(wide[at:])))) }
	var l []lex.Token
	for at := 0; ; {
		at += match(skipped, at)
		if at == len(s) {
			return append(l, lex.Token{At: at}), 0, api.OK
		}
		t := lex.Token{At: at}
		if n := match(named, at); n > 0 {
			if n > 32 {
				return nil, at, api.ErrLong
			}
			t.Kind, t.Text = lex.Name, s[at:at+n]
			at += n
		} else if n := match(counted, at); n > 0 {
			fault, e := numberFault(s[at:], n, match(whole, at) > 0)
			if e != api.OK {
				return nil, at + fault, e
			}
			t.Kind, t.Text = lex.Int, s[at:at+n]
			t.N, _ = strconv.ParseInt(t.Text, 10, 64)
			at += n
		} else if n := match(opened, at); n > 0 {
			stop := at + n
			if stop < len(s) && s[stop] == '\\' {
				return nil, stop + 1, api.ErrText
			}
			if stop == len(s) || s[stop] != '"' {
				return nil, stop, api.ErrText
			}
			t.Kind, t.Text = lex.Text, escapes.Replace(s[at+1:stop])
			if len(t.Text) > 200 {
				return nil, at, api.ErrLong
			}
			at = stop + 1
		} else if n := match(signed, at); n > 0 {
			t.Kind, t.Text = lex.Sign, s[at:at+n]
			at += n
		} else {
			return nil, at, api.ErrText
		}
		l = append(l, t)
	}
}

// numberFault is for a text that begins with n bytes of a number.
func numberFault(s string, n int, whole bool) (int, api.Errno) {
	digits := strings.TrimPrefix(s[:n], "-")
	switch {
	case whole && len(digits) > 18:
		return 0, api.ErrArg
	case whole:
		return 0, api.OK
	case len(digits) > 1 && digits[0] == '0':
		return n - len(digits) + 1, api.ErrText
	}
	return n, api.ErrText
}
