package print

import (
	"slices"
	"strings"
)

// part is a text, or other parts that are made when their turn comes.
type part struct {
	text  string
	parts func() []part // nil, if it is a text
}

func text(s string) part {
	return part{text: s}
}

func several(l ...part) part {
	return later(func() []part { return l })
}

func later(parts func() []part) part {
	return part{parts: parts}
}

// joined has a sign between the parts of a list, and one on each side.
func joined[T any](first string, l []T, between, last string, of func(T) part) part {
	return later(func() []part {
		parts := []part{text(first)}
		for i, x := range l {
			if i > 0 {
				parts = append(parts, text(between))
			}
			parts = append(parts, of(x))
		}
		return append(parts, text(last))
	})
}

// joinedIfAny is nothing for an empty list.
func joinedIfAny[T any](first string, l []T, between, last string, of func(T) part) part {
	if len(l) == 0 {
		return text("")
	}
	return joined(first, l, between, last, of)
}

// source keeps by itself what is still to be written: a thing may be nested deeper than calls can be.
func source(p part) string {
	var b strings.Builder
	left := []part{p} // the next one is the last
	for len(left) > 0 {
		next := left[len(left)-1]
		left = left[:len(left)-1]
		if next.parts == nil {
			b.WriteString(next.text)
			continue
		}
		for _, x := range slices.Backward(next.parts()) {
			left = append(left, x)
		}
	}
	return b.String()
}
