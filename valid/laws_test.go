package valid_test

import (
	"math/rand/v2"
	"regexp"
	"slices"
	"strings"
	"testing"

	"diptych/api"
	"diptych/codec"
	"diptych/node"
	"diptych/schema"
	"diptych/valid"
)

// rules are what the lines of a schema say, read without the packages that are tested.
type rules struct {
	root  string
	kinds map[string]rule
	marks []string
}

type rule struct {
	attrs   []string // Name=Values, as they are written
	content *regexp.Regexp
}

var aName = regexp.MustCompile(`[a-z]+`)

func rulesOf(text string) rules {
	r := rules{kinds: map[string]rule{}}
	for line := range strings.Lines(text) {
		head, content, isKind := strings.Cut(strings.TrimSuffix(line, "\n"), ": ")
		words := strings.Fields(head)
		if !isKind {
			r.marks = append(r.marks, words[1])
			continue
		}
		if r.root == "" {
			r.root = words[1]
		}
		pattern := aName.ReplaceAllString(strings.ReplaceAll(content, " ", "·"), "(?:$0,)")
		r.kinds[words[1]] = rule{words[2:], regexp.MustCompile("^(?:" + strings.ReplaceAll(pattern, "·", "") + ")$")}
	}
	return r
}

// fits holds a node that is right against the words of the document, alone.
func (r rules) fits(n api.Node) bool {
	if n.Kind == "text" {
		for _, m := range n.Marks {
			if !slices.Contains(r.marks, m) {
				return false
			}
		}
		return true
	}
	k, ok := r.kinds[n.Kind]
	if !ok || len(k.attrs) != len(n.Attrs) {
		return false
	}
	for i, a := range n.Attrs {
		name, values, _ := strings.Cut(k.attrs[i], "=")
		if a.Name != name || values != "*" && !slices.Contains(strings.Split(values, "|"), a.Value) {
			return false
		}
	}
	row := ""
	for _, kid := range n.Kids {
		row += kid.Kind + ","
	}
	return k.content.MatchString(row)
}

// bad are the paths of all nodes that do not fit, a node ahead of those in it.
func (r rules) bad(n api.Node, path string) []string {
	var all []string
	if !r.fits(n) {
		all = append(all, path)
	}
	for i, kid := range n.Kids {
		all = append(all, r.bad(kid, path+written([]int{i}))...)
	}
	return all
}

// checked holds what is told of a document against the rules, and tells it.
func checked(t *testing.T, s schema.Schema, r rules, n api.Node) api.Errno {
	t.Helper()
	e := valid.Check(s, n)
	if wrong := node.Check(n); wrong != api.OK {
		if e != wrong {
			t.Fatalf("%v: %d, not %d", n, e, wrong)
		}
		badOf(s, n)
		return e
	}
	want := none
	if all := r.bad(n, ""); len(all) > 0 {
		want = all[0]
	}
	if got := badOf(s, n); got != want {
		text, _ := codec.Print(n)
		t.Fatalf("%s: %s is bad, not %s", text, got, want)
	}
	// V3: valid just if the root is the schema's, and nothing is bad.
	if isValid := n.Kind == r.root && want == none; e == api.OK != isValid || e != api.OK && e != api.ErrValid {
		text, _ := codec.Print(n)
		t.Fatalf("%s: %d", text, e)
	}
	return e
}

// forests are all lists of that many nodes in all, out of a few heads and texts.
func forests(heads, texts []api.Node, most int) [][][]api.Node {
	all := [][][]api.Node{{nil}}
	for size := 1; size <= most; size++ {
		var l [][]api.Node
		for inner := range size {
			for _, rest := range all[size-1-inner] {
				for _, h := range heads {
					for _, kids := range all[inner] {
						n := h
						n.Kids = kids
						l = append(l, slices.Concat([]api.Node{n}, rest))
					}
				}
				if inner > 0 {
					continue
				}
				for _, x := range texts {
					l = append(l, slices.Concat([]api.Node{x}, rest))
				}
			}
		}
		all = append(all, l)
	}
	return all
}

// TestV1AllSmall goes through all documents of up to 5 nodes out of a few, the ones that are not right among them.
func TestV1AllSmall(t *testing.T) {
	heads := []api.Node{of("a"), with(of("a"), api.Attr{Name: "x", Value: "l"}), with(of("a"), api.Attr{Name: "x", Value: "u"}), of("b")}
	texts := []api.Node{text("t"), text("t", "m"), text("t", "n")}
	all := forests(heads, texts, 4)
	for _, lines := range []string{
		"node a: (a|b|text)*\nnode b: ()\nmark m\n",
		"node a: text* b?\nnode b: a*\nmark m\nmark n\n",
		"node b: (a b)* text?\nnode a x=*: (a|text)*\nmark n\n",
		"node a x=l|r: text+|a b|()\nnode b: a+\nmark m\n",
		"node b: a*\nnode a x=u: b? text text?\nmark m\nmark n\n",
	} {
		s, r := parsed(t, lines), rulesOf(lines)
		counts := map[api.Errno]int{}
		for _, h := range heads {
			for _, l := range all {
				for _, kids := range l {
					h.Kids = kids
					counts[checked(t, s, r, h)]++
				}
			}
		}
		if counts[api.OK] < 10 || counts[api.ErrValid] < 50000 || counts[api.ErrForm] < 3000 {
			t.Errorf("%q: %v", lines, counts)
		}
	}
}

// chance makes schemas, and documents for them.
type chance struct{ r *rand.Rand }

func newChance() chance { return chance{rand.New(rand.NewPCG(9, 12))} }

func (c chance) one(l ...string) string { return l[c.r.IntN(len(l))] }

// content is an expression over these kinds; not all that it makes is as an expression is written.
func (c chance) content(kinds []string, deep int) string {
	unit := func() string {
		if deep > 0 && c.r.IntN(4) == 0 {
			return "(" + c.content(kinds, deep-1) + ")" + c.one("", "*", "+", "?")
		}
		return c.one(kinds...) + c.one("", "*", "+", "?")
	}
	out := unit()
	for range c.r.IntN(3) {
		out += c.one(" ", " ", "|") + unit()
	}
	return out
}

func (c chance) attrs() string {
	out := ""
	for _, s := range []string{"a", "ab", "b", "left"} {
		if c.r.IntN(3) == 0 {
			out += " " + s + "=" + c.one("*", "x", "x|y", "y|x|left", "a|b|c|d|e|f")
		}
	}
	return out
}

// lines are those of a schema of up to 12 kinds.
func (c chance) lines() string {
	for {
		kinds := []string{"a", "aa", "b", "box", "doc", "item", "left", "list", "m", "para", "tex", "x"}
		c.r.Shuffle(len(kinds), func(i, j int) { kinds[i], kinds[j] = kinds[j], kinds[i] })
		kinds = kinds[:1+c.r.IntN(12)]
		out := ""
		for _, k := range kinds {
			out += "node " + k + c.attrs() + ": " + c.content(append([]string{"text"}, kinds...), 2) + "\n"
		}
		for _, m := range []string{"a", "b", "doc", "m"} {
			if c.r.IntN(2) == 0 {
				out += "mark " + m + "\n"
			}
		}
		if _, e := schema.Parse(out); e == api.OK {
			return out
		}
	}
}

// node is one of a kind that likely fits, but as deep as it may be kids are left out.
func (c chance) node(r rules, kind string, deep int) api.Node {
	n := of(kind)
	k := r.kinds[kind]
	for _, a := range k.attrs {
		name, values, _ := strings.Cut(a, "=")
		value := c.one(strings.Split(values, "|")...)
		if values == "*" {
			value = c.one("", "any", "é \"", "x")
		}
		n.Attrs = append(n.Attrs, api.Attr{Name: name, Value: value})
	}
	for _, kid := range c.row(r, k.content) {
		if kid != "text" && deep > 0 {
			n.Kids = append(n.Kids, c.node(r, kid, deep-1))
		} else if kid == "text" {
			n.Kids = append(n.Kids, c.text(r, len(n.Kids)))
		}
	}
	return n
}

// text is never alike the ones at the places beside it.
func (c chance) text(r rules, place int) api.Node {
	if place%2 == 0 || len(r.marks) == 0 {
		return text("even")
	}
	return text("odd", c.one(r.marks...))
}

// row is kinds that a content means, if some tries find one.
func (c chance) row(r rules, content *regexp.Regexp) []string {
	names := []string{"text"}
	for _, s := range []string{"a", "aa", "b", "box", "doc", "item", "left", "list", "m", "para", "tex", "x"} {
		if strings.Contains(content.String(), "(?:"+s+",)") {
			names = append(names, s)
		}
	}
	for range 30 {
		var row []string
		for range c.r.IntN(5) {
			row = append(row, c.one(names...))
		}
		if content.MatchString(strings.Join(append(row, ""), ",")) {
			return row
		}
	}
	return nil
}

// change changes something somewhere in a document.
func (c chance) change(n api.Node) api.Node {
	n = node.Copy(n)
	at := &n
	for len(at.Kids) > 0 && c.r.IntN(4) > 0 {
		at = &at.Kids[c.r.IntN(len(at.Kids))]
	}
	if at.Kind == "text" {
		at.Marks = [][]string{nil, {"a"}, {"b"}, {"a", "m"}, {"none"}}[c.r.IntN(5)]
		return n
	}
	switch i := c.r.IntN(6); {
	case i == 0:
		at.Kind = c.one("a", "doc", "none", "x")
	case i == 1 && len(at.Attrs) > 0:
		at.Attrs[c.r.IntN(len(at.Attrs))].Value = c.one("", "x", "none")
	case i == 2 && len(at.Attrs) > 0:
		at.Attrs = at.Attrs[1:]
	case i == 3:
		at.Attrs = append(at.Attrs, api.Attr{Name: "zz"})
	case i == 4 && len(at.Kids) > 0:
		i := c.r.IntN(len(at.Kids))
		at.Kids = slices.Delete(at.Kids, i, i+1)
	default:
		i := c.r.IntN(len(at.Kids) + 1)
		at.Kids = slices.Insert(at.Kids, i, of(c.one("a", "doc", "x")))
	}
	return n
}

func TestV1OfChance(t *testing.T) {
	c := newChance()
	counts := map[api.Errno]int{}
	for range 2000 {
		lines := c.lines()
		s, r := parsed(t, lines), rulesOf(lines)
		for range 10 {
			n := c.node(r, s.Kinds[0].Name, 4)
			counts[checked(t, s, r, n)]++
			counts[checked(t, s, r, c.change(n))]++
			counts[checked(t, s, r, c.change(c.change(n)))]++
		}
	}
	if counts[api.OK] < 3000 || counts[api.ErrValid] < 3000 {
		t.Error(counts)
	}
}

// TestV2OfChance: a fresh node has what its kind asks for, and fits just if its content may be nothing.
func TestV2OfChance(t *testing.T) {
	c := newChance()
	for range 1000 {
		lines := c.lines()
		s, r := parsed(t, lines), rulesOf(lines)
		for kind, k := range r.kinds {
			n, e := valid.Fresh(s, kind)
			if e != api.OK || n.Kind != kind || len(n.Kids) != 0 || len(n.Attrs) != len(k.attrs) || n.Text != "" || len(n.Marks) != 0 {
				t.Fatalf("%q, %s: %v, %d", lines, kind, n, e)
			}
			for i, a := range n.Attrs {
				name, values, _ := strings.Cut(k.attrs[i], "=")
				first, _, _ := strings.Cut(values, "|")
				if a.Name != name || a.Value != strings.TrimPrefix(first, "*") {
					t.Fatalf("%q, %s: %v", lines, kind, n)
				}
			}
			if checked(t, s, r, n); r.fits(n) != k.content.MatchString("") {
				t.Fatalf("%q, %s: %v", lines, kind, n)
			}
		}
		for _, other := range []string{"none", "text", "", "ab"} {
			if n, e := valid.Fresh(s, other); e != api.ErrNone || n.Kind != "" {
				t.Fatalf("%q, %s: %v, %d", lines, other, n, e)
			}
		}
	}
}
