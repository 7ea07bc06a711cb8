package token

import (
	"strings"
	"unicode/utf8"

	"diptych/api"
	"diptych/codec"
)

// partLength is how many tokens at the beginning of l, which is not empty, are written as one: the signs of a text, or just the first one.
func partLength(l []Token) int {
	length := 1
	for length < len(l) && alike(l[length-1], l[length]) {
		length++
	}
	return length
}

// alike tells whether two tokens beside one another are of one text.
func alike(a, b Token) bool {
	return a.Kind == Sign && b.Kind == Sign && a.Head == b.Head
}

// written is how codec writes a part, and whether its tokens are those of a node at all. They are held against tokens with no more in them than such ones have.
func written(part []Token) (string, bool) {
	first := part[0]
	switch first {
	case Token{Kind: Close}:
		return "]", true
	case Token{Kind: Open, Head: first.Head}:
		return first.Head + "[", reads(first.Head + "[]")
	case Token{Kind: Sign, Text: first.Text, Head: first.Head}:
		s, ok := words(part)
		return codec.Quote(s) + first.Head, ok && reads(codec.Quote(first.Text)+first.Head)
	}
	return "", false
}

// reads is asked of a text that is a node just if the head at its end, or ahead of its brackets, is right: all else that codec might read there would be more than one node.
func reads(s string) bool {
	_, e := codec.Parse(s)
	return e == api.OK
}

// words is what signs say, and whether each of them is one code point.
func words(signs []Token) (string, bool) {
	var out strings.Builder
	for _, sign := range signs {
		if !utf8.ValidString(sign.Text) || utf8.RuneCountInString(sign.Text) != 1 {
			return "", false
		}
		out.WriteString(sign.Text)
	}
	return out.String(), true
}
