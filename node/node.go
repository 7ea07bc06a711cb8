// Package node: documents as trees: layer 1: see shared/doc/01-node.md.
package node

import (
	"slices"
	"strings"
	"unicode/utf8"

	"diptych/api"
)

// MaxValue is how many bytes a value has.
const MaxValue = 40

// edges is what a node that is no text adds to the size of its kids: its beginning and its end.
const edges = 2

// Name and Value tell whether a text is one.
func Name(s string) bool {
	if len(s) < 1 || len(s) > api.MaxName || s == api.TextKind {
		return false
	}
	for i := range len(s) {
		if s[i] < 'a' || s[i] > 'z' {
			return false
		}
	}
	return true
}

func Value(s string) bool { return len(s) <= MaxValue && utf8.ValidString(s) }

// Right tells whether a node is, Check what is wrong with it.
func Right(n api.Node) bool { return Check(n) == api.OK }

func Check(n api.Node) api.Errno {
	switch {
	case !wellFormed(n):
		return api.ErrForm
	case Depth(n) > api.MaxDepth:
		return api.ErrDeep
	case Size(n) > api.MaxTokens:
		return api.ErrLarge
	}
	return api.OK
}

func wellFormed(n api.Node) bool {
	var walk func(n api.Node) bool
	walk = func(n api.Node) bool {
		if isText(n) {
			return textFormed(n)
		}
		if !headFormed(n) {
			return false
		}
		for i, kid := range n.Kids {
			if i > 0 && alike(n.Kids[i-1], kid) || !walk(kid) {
				return false
			}
		}
		return true
	}
	return walk(n)
}

func isText(n api.Node) bool { return n.Kind == api.TextKind }

func textFormed(n api.Node) bool {
	return n.Text != "" && utf8.ValidString(n.Text) && marksFormed(n.Marks) && len(n.Attrs) == 0 && len(n.Kids) == 0
}

// headFormed looks at all of a node that is no text, but for its kids.
func headFormed(n api.Node) bool {
	return Name(n.Kind) && n.Text == "" && len(n.Marks) == 0 && attrsFormed(n.Attrs)
}

func marksFormed(l []string) bool {
	for i, mark := range l {
		if !Name(mark) || i > 0 && l[i-1] >= mark {
			return false
		}
	}
	return true
}

func attrsFormed(l []api.Attr) bool {
	for i, attr := range l {
		if !Name(attr.Name) || !Value(attr.Value) || i > 0 && l[i-1].Name >= attr.Name {
			return false
		}
	}
	return true
}

// alike tells whether two nodes are texts that, beside one another, are to be one.
func alike(a, b api.Node) bool {
	return isText(a) && isText(b) && slices.Equal(a.Marks, b.Marks)
}

// Same tells whether two nodes are, Join brings nodes into one form.
func Same(a, b api.Node) bool {
	var walk func(a, b api.Node) bool
	walk = func(a, b api.Node) bool {
		return a.Kind == b.Kind && a.Text == b.Text &&
			slices.Equal(a.Marks, b.Marks) && slices.Equal(a.Attrs, b.Attrs) &&
			slices.EqualFunc(a.Kids, b.Kids, walk)
	}
	return walk(a, b)
}

func Join(l []api.Node) []api.Node {
	var joined []api.Node
	for rest := withoutEmpty(l); len(rest) > 0; {
		run := runLength(rest)
		joined = append(joined, asOne(rest[:run]))
		rest = rest[run:]
	}
	return joined
}

func withoutEmpty(l []api.Node) []api.Node {
	var kept []api.Node
	for _, n := range l {
		if !isText(n) || n.Text != "" {
			kept = append(kept, n)
		}
	}
	return kept
}

// runLength is how many nodes at the beginning of l, which is not empty, are to be one.
func runLength(l []api.Node) int {
	run := 1
	for run < len(l) && alike(l[run-1], l[run]) {
		run++
	}
	return run
}

// asOne copies the last one of several: it is not told as it was, so it may not share lists with what was handed in.
func asOne(run []api.Node) api.Node {
	last := run[len(run)-1]
	if len(run) == 1 {
		return last
	}
	var text strings.Builder
	for _, n := range run {
		text.WriteString(n.Text)
	}
	one := Copy(last)
	one.Text = text.String()
	return one
}

// Size is a node's, Total that of some, Depth how deep it is.
func Size(n api.Node) int { return Total([]api.Node{n}) }

func Total(l []api.Node) int {
	total := 0
	var walk func(l []api.Node)
	walk = func(l []api.Node) {
		for _, n := range l {
			if isText(n) {
				total += utf8.RuneCountInString(n.Text)
				continue
			}
			total += edges
			walk(n.Kids)
		}
	}
	walk(l)
	return total
}

func Depth(n api.Node) int {
	deepest := 0
	var walk func(n api.Node, around int)
	walk = func(n api.Node, around int) {
		if isText(n) {
			return
		}
		deepest = max(deepest, around+1)
		for _, kid := range n.Kids {
			walk(kid, around+1)
		}
	}
	walk(n, 0)
	return deepest
}

// Words are all texts in a node, Copy is a node of its own.
func Words(n api.Node) string {
	var words strings.Builder
	var walk func(n api.Node)
	walk = func(n api.Node) {
		if isText(n) {
			words.WriteString(n.Text)
			return
		}
		for _, kid := range n.Kids {
			walk(kid)
		}
	}
	walk(n)
	return words.String()
}

func Copy(n api.Node) api.Node {
	var walk func(n api.Node) api.Node
	walk = func(n api.Node) api.Node {
		n.Marks, n.Attrs, n.Kids = slices.Clone(n.Marks), slices.Clone(n.Attrs), slices.Clone(n.Kids)
		for i, kid := range n.Kids {
			n.Kids[i] = walk(kid)
		}
		return n
	}
	return walk(n)
}
