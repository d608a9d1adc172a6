package lex

import (
	"strings"
)

// class tells whether a byte is of it.
type class func(b byte) bool

type classes struct {
	blank, hash, comment            class
	letter, digit, word             class
	minus, dot, sign                class
	quote, plain, backslash, escape class
}

// newClasses is called for each text: functions may not stand in variables of the package.
func newClasses() classes {
	letter := either(between('a', 'z'), between('A', 'Z'), among("_"))
	digit := between('0', '9')
	return classes{
		blank:     among(blanks),
		hash:      among("#"),
		comment:   not(among("\n")),
		letter:    letter,
		digit:     digit,
		word:      either(letter, digit),
		minus:     among("-"),
		dot:       among("."),
		sign:      among(signs),
		quote:     among("\""),
		plain:     not(among("\"\\\n")),
		backslash: among("\\"),
		escape:    among(escapes),
	}
}

func among(set string) class {
	return func(b byte) bool {
		return strings.IndexByte(set, b) >= 0
	}
}

func between(first, last byte) class {
	return func(b byte) bool {
		return first <= b && b <= last
	}
}

func either(all ...class) class {
	return func(b byte) bool {
		for _, is := range all {
			if is(b) {
				return true
			}
		}
		return false
	}
}

func not(is class) class {
	return func(b byte) bool {
		return !is(b)
	}
}
