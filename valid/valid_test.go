package valid_test

import (
	"reflect"
	"slices"
	"strconv"
	"strings"
	"testing"

	"diptych/api"
	"diptych/codec"
	"diptych/expr"
	"diptych/schema"
	"diptych/valid"
)

const notes = "node doc: (para|list)+\nnode para align=left|right note=*: text*\nnode list: item+\nnode item: para list?\nnode box: ()\nmark b\nmark i\n"

func parsed(t *testing.T, text string) schema.Schema {
	t.Helper()
	s, e := schema.Parse(text)
	if e != api.OK {
		t.Fatalf("%q: %d", text, e)
	}
	return s
}

func doc(t *testing.T, text string) api.Node {
	t.Helper()
	n, e := codec.Parse(text)
	if e != api.OK {
		t.Fatalf("%.50q: %d", text, e)
	}
	return n
}

func text(s string, marks ...string) api.Node {
	return api.Node{Kind: api.TextKind, Text: s, Marks: marks}
}

func of(kind string, kids ...api.Node) api.Node { return api.Node{Kind: kind, Kids: kids} }

func with(n api.Node, attrs ...api.Attr) api.Node {
	n.Attrs = attrs
	return n
}

// nested is that many nodes of a kind in one another.
func nested(kind string, times int) api.Node {
	n := of(kind)
	for range times - 1 {
		n = of(kind, n)
	}
	return n
}

// none is what Bad answers of a document in which nothing is bad.
const none = "none"

// badOf is what Bad answers: the path, with a / ahead of each kid, or none.
func badOf(s schema.Schema, n api.Node) string {
	path, bad := valid.Bad(s, n)
	if !bad {
		if len(path) > 0 {
			return "a path, and nothing bad"
		}
		return none
	}
	return written(path)
}

func written(path []int) string {
	out := ""
	for _, i := range path {
		out += "/" + strconv.Itoa(i)
	}
	return out
}

// A p is a para that fits.
const p = `para(align="left" note="")[]`

func TestV1CheckAndBad(t *testing.T) {
	s := parsed(t, notes)
	for _, c := range []struct{ doc, bad string }{
		// What fits.
		{"doc[" + p + "]", none},
		{"doc[" + p + p + "list[item[" + p + "]]" + p + "]", none},
		{"doc[list[item[" + p + "list[item[" + p + "]item[" + p + "]]]]]", none},
		{`doc[para(align="right" note="any \" value é日")["a""b"<b>"c"<b,i>"d"<i>"e"]]`, none},
		{`doc[para(align="left" note="` + strings.Repeat("x", 40) + `")[]]`, none},
		// Contents.
		{"doc[]", ""},
		{`doc["a"]`, ""},
		{"doc[" + p + `"a"]`, ""},
		{"doc[item[" + p + "]]", ""},
		{"doc[" + p + "doc[" + p + "]]", ""},
		{"doc[list[]]", "/0"},
		{"doc[" + p + "list[" + p + "]]", "/1"},
		{"doc[list[item[]]]", "/0/0"},
		{"doc[list[item[list[item[" + p + "]]]]]", "/0/0"},
		{"doc[list[item[" + p + p + "]]]", "/0/0"},
		{"doc[list[item[" + p + "list[item[" + p + "]]list[item[" + p + "]]]]]", "/0/0"},
		{`doc[list[item[` + p + `]item["a"]]]`, "/0/1"},
		{`doc[para(align="left" note="")[` + p + "]]", "/0"},
		{`doc[para(align="left" note="")["a"box[]]]`, "/0"},
		// Kinds.
		{"none[]", ""},
		{"doc[none[]]", ""},
		{"doc[" + p + "d[]]", ""},
		{"b[]", ""},
		{"align[]", ""},
		{"docs[" + p + "]", ""},
		{"doc[list[item[" + p + "none[none[]]]]]", "/0/0"},
		// Attributes.
		{"doc[para[]]", "/0"},
		{`doc[para(align="left")[]]`, "/0"},
		{`doc[para(note="")[]]`, "/0"},
		{`doc[para(align="left" more="" note="")[]]`, "/0"},
		{`doc[para(align="left" note="" zz="")[]]`, "/0"},
		{`doc[para(aa="" align="left" note="")[]]`, "/0"},
		{`doc[para(align="left" not="")[]]`, "/0"},
		{`doc[para(align="" note="")[]]`, "/0"},
		{`doc[para(align="up" note="")[]]`, "/0"},
		{`doc[para(align="Left" note="")[]]`, "/0"},
		{`doc[para(align="left|right" note="")[]]`, "/0"},
		{`doc[para(align="note" note="")[]]`, "/0"},
		{`doc(align="left")[` + p + "]", ""},
		{`doc[` + p + `list(note="")[item[` + p + "]]]", "/1"},
		// Marks.
		{`doc[para(align="left" note="")["a"<c>]]`, "/0/0"},
		{`doc[para(align="left" note="")["a""b"<b>"c"<b,c>"d"<b,i,j>]]`, "/0/2"},
		{`doc[para(align="left" note="")["a"<a,b>]]`, "/0/0"},
		{`doc[para(align="left" note="")["a"<para>]]`, "/0/0"},
		{`doc[para(align="left" note="")["a"<bi>]]`, "/0/0"},
		// The first one of several.
		{"doc[list[]para[]]", "/0"},
		{"doc[" + p + "para[]list[]]", "/1"},
		{"doc[list[item[para[]list[item[]]]]para[]]", "/0/0/0"},
		{"doc[list[item[" + p + "list[item[]]]]para[]]", "/0/0/1/0"},
		{"doc[list[list[]]para[]]", "/0"},
		{`doc[para(align="left" note="")["a"<i>"b"<j>]para[]]`, "/0/1"},
		{`doc[para(align="up" note="")["a"<j>]]`, "/0"},
		{"doc[" + strings.Repeat(p, 11) + `para(align="left" note="")["a""b"<b>"c"<k>]]`, "/11/2"},
		// Not all that is no text is of the schema's kinds, and not all that is bad is in the root.
		{`"a"<b>`, "root " + none},
		{`"a"`, "root " + none},
		{`"a"<c>`, "root "},
		{p, "root " + none},
		{"para[]", "root "},
		{"box[]", "root " + none},
		{"list[item[" + p + "]]", "root " + none},
		{"list[item[para[]]]", "root /0/0"},
	} {
		n := doc(t, c.doc)
		want, other := strings.CutPrefix(c.bad, "root ")
		e := api.ErrValid
		if want == none && !other {
			e = api.OK
		}
		if got := badOf(s, n); got != want {
			t.Errorf("%s: %s is bad, not %s", c.doc, got, want)
		}
		if got := valid.Check(s, n); got != e {
			t.Errorf("%s: %d, not %d", c.doc, got, e)
		}
	}
}

// TestV1Contents: each way in which contents are made.
func TestV1Contents(t *testing.T) {
	for _, c := range []struct{ content, yes, no string }{
		{"()", ";", "text;a;doc;a a"},
		{"text", "text", ";a;doc;text text"},
		{"text*", ";text;text text", "a;text a;a text"},
		{"a+", "a;a a;a a a", ";b;a b;text;a text"},
		{"a?", ";a", "a a;b"},
		{"a b", "a b", ";a;b;b a;a b a;a a b"},
		{"a|b", "a;b", ";a b;b a;doc"},
		{"a|b|()", "a;b;", "a b;b b"},
		{"(a b)*", ";a b;a b a b", "a;a b a;b a"},
		{"(a|b)* a (a|b)", "a b;a a;b a a;a b a b;b b a b", ";a;b;a b b;b a b b"},
		{"a (text|b)? a+", "a a;a text a;a b a a", "a;a text;a text b a;text a a"},
		{"doc*", ";doc;doc doc", "a;text"},
		{"text+ a text+", "text a text;text text a text", "a;text a;a text;text a a text"},
	} {
		s := parsed(t, "node doc: "+c.content+"\nnode a: ()\nnode b: ()\nmark m\n")
		for _, row := range strings.Split(c.yes, ";") {
			if n := rowOf(row); valid.Check(s, n) != api.OK || badOf(s, n) != none {
				t.Errorf("%q: %q is no row: %d", c.content, row, valid.Check(s, n))
			}
		}
		for _, row := range strings.Split(c.no, ";") {
			if n := rowOf(row); valid.Check(s, n) != api.ErrValid || badOf(s, n) != "" {
				t.Errorf("%q: %q is a row: %d", c.content, row, valid.Check(s, n))
			}
		}
	}
}

// rowOf is a doc with kids of these kinds; texts have marks or not, so that none are alike.
func rowOf(row string) api.Node {
	n := of("doc")
	for i, kind := range strings.Fields(row) {
		switch {
		case kind != api.TextKind:
			n.Kids = append(n.Kids, of(kind))
		case i%2 == 0:
			n.Kids = append(n.Kids, text("x"))
		default:
			n.Kids = append(n.Kids, text("x", "m"))
		}
	}
	return n
}

// wrongSchemas are not right, each in one way.
func wrongSchemas(t *testing.T) map[string]schema.Schema {
	all := map[string]schema.Schema{"nothing": {}}
	add := func(what string, change func(s *schema.Schema)) {
		s := parsed(t, notes)
		change(&s)
		all[what] = s
	}
	add("no kinds", func(s *schema.Schema) { s.Kinds = nil })
	add("13 kinds", func(s *schema.Schema) {
		for _, k := range []string{"a", "b", "c", "d", "e", "f", "g", "h"} {
			s.Kinds = append(s.Kinds, schema.Kind{Name: k, Content: expr.Expr{Op: expr.Seq}})
		}
	})
	add("a kind twice", func(s *schema.Schema) { s.Kinds = append(s.Kinds, s.Kinds[1]) })
	add("a kind that is no name", func(s *schema.Schema) { s.Kinds[4].Name = "Box" })
	add("a kind named text", func(s *schema.Schema) { s.Kinds[4].Name = "text" })
	add("a content that is not right", func(s *schema.Schema) { s.Kinds[4].Content = expr.Expr{} })
	add("a content of unknown kinds", func(s *schema.Schema) { s.Kinds[4].Content = name("none") })
	add("attributes that fall", func(s *schema.Schema) { slices.Reverse(s.Kinds[1].Attrs) })
	add("a value that is no name", func(s *schema.Schema) { s.Kinds[1].Attrs[0].Values[1] = "" })
	add("marks that fall", func(s *schema.Schema) { slices.Reverse(s.Marks) })
	add("a mark that is no name", func(s *schema.Schema) { s.Marks[1] = "iI" })
	return all
}

func name(s string) expr.Expr { return expr.Expr{Op: expr.Name, Name: s} }

// wrongNodes are not right, each in one way, but fit for all that a schema tells.
func wrongNodes() map[string]api.Node {
	para := with(of("para"), api.Attr{Name: "align", Value: "left"}, api.Attr{Name: "note"})
	texts := func(l ...api.Node) api.Node { return of("doc", with(of("para", l...), para.Attrs...)) }
	noted := func(s string) api.Node {
		return of("doc", with(of("para"), para.Attrs[0], api.Attr{Name: "note", Value: s}))
	}
	odd := of("doc", para)
	odd.Text = "x"
	marked := of("doc", para)
	marked.Marks = []string{"b"}
	full := text("a")
	full.Kids = []api.Node{para}
	attrs := text("a")
	attrs.Attrs = para.Attrs
	return map[string]api.Node{
		"nothing":              {},
		"no name":              of("Doc", para),
		"a text in a node":     odd,
		"marks of a node":      marked,
		"an empty text":        texts(text("")),
		"no UTF-8":             texts(text("a\xff")),
		"texts alike":          texts(text("a"), text("b")),
		"marked texts alike":   texts(text("a", "b"), text("b", "b")),
		"marks that fall":      texts(text("a", "i", "b")),
		"a mark twice":         texts(text("a", "b", "b")),
		"a text with kids":     texts(full),
		"a text with attrs":    texts(attrs),
		"a long value":         noted(strings.Repeat("x", 41)),
		"a value, no UTF-8":    noted("\xff"),
		"attributes that fall": of("doc", with(of("para"), para.Attrs[1], para.Attrs[0])),
		"an attribute twice":   of("doc", with(of("para"), para.Attrs[0], para.Attrs[0])),
		"wrong, and too deep":  of("doc", text(""), nested("doc", 40)),
		"wrong, and too large": texts(text(strings.Repeat("a", 4000)), text("")),
	}
}

// TestV1WrongSchemas: a schema that is not right is told ahead of what is wrong with the document.
func TestV1WrongSchemas(t *testing.T) {
	right := doc(t, "doc["+p+"]")
	for what, s := range wrongSchemas(t) {
		for _, n := range []api.Node{right, doc(t, "doc[]"), doc(t, "none[]"), {Kind: "P"}, {}, nested("p", 41), of("doc", text(strings.Repeat("a", 4000)))} {
			if e := valid.Check(s, n); e != api.ErrArg {
				t.Error(what, n.Kind, e)
			}
			// V3: no document is valid, so something is bad in each.
			if badOf(s, n) == none {
				t.Error(what, n.Kind, "nothing is bad")
			}
		}
	}
	if s := parsed(t, notes); valid.Check(s, right) != api.OK {
		t.Error("the one that is right")
	}
}

// TestV1WrongNodes: what is wrong with a document by itself is told ahead of what the schema says to it.
func TestV1WrongNodes(t *testing.T) {
	s, other := parsed(t, notes), parsed(t, "node x: ()\n")
	for what, n := range wrongNodes() {
		if e := valid.Check(s, n); e != api.ErrForm {
			t.Error(what, e)
		}
		if e := valid.Check(other, n); e != api.ErrForm {
			t.Error(what, e)
		}
		badOf(s, n)
		badOf(other, n)
	}
}

func TestV1Limits(t *testing.T) {
	s := parsed(t, "node doc: doc?|text*\nmark b\n")
	long := func(points int) api.Node { return of("doc", text(strings.Repeat("é", points))) }
	for _, c := range []struct {
		what string
		n    api.Node
		e    api.Errno
	}{
		{"the deepest", nested("doc", 40), api.OK},
		{"too deep", nested("doc", 41), api.ErrDeep},
		{"too deep, of another kind", nested("none", 41), api.ErrDeep},
		{"too deep, in another root", of("none", nested("doc", 40)), api.ErrDeep},
		{"too deep, and too large", of("doc", nested("doc", 40), text(strings.Repeat("a", 4000))), api.ErrDeep},
		{"the largest", long(3998), api.OK},
		{"too large", long(3999), api.ErrLarge},
		{"too large, and bad", of("none", text(strings.Repeat("a", 3999), "c")), api.ErrLarge},
		{"the largest, and bad", of("doc", text(strings.Repeat("a", 3998), "c")), api.ErrValid},
	} {
		if e := valid.Check(s, c.n); e != c.e {
			t.Error(c.what, e)
		}
	}
	for _, n := range []api.Node{nested("doc", 40), long(3998)} {
		if got := badOf(s, n); got != none {
			t.Error(n.Kind, got)
		}
	}
	deep := nested("doc", 39)
	for inner := &deep; ; inner = &inner.Kids[0] {
		if len(inner.Kids) == 0 {
			inner.Kids = []api.Node{of("bad")}
			break
		}
	}
	if got := badOf(s, deep); got != strings.Repeat("/0", 38) || valid.Check(s, deep) != api.ErrValid {
		t.Error(got)
	}
}

// TestV1Root: the kind of the root is the first one, not just any.
func TestV1Root(t *testing.T) {
	for _, c := range []struct {
		schema, doc string
		e           api.Errno
	}{
		{"node a: ()\nnode b: ()\n", "a[]", api.OK},
		{"node a: ()\nnode b: ()\n", "b[]", api.ErrValid},
		{"node b: ()\nnode a: ()\n", "b[]", api.OK},
		{"node b: ()\nnode a: ()\n", "a[]", api.ErrValid},
		{"node a: ()\nnode aa: ()\n", "aa[]", api.ErrValid},
		{"node a: a*\n", "a[a[]a[a[]]]", api.OK},
		{"node a: b?\nnode b: a\n", "a[b[a[]]]", api.OK},
		{"node a: b?\nnode b: a\n", "b[a[]]", api.ErrValid},
		{"node a: text\n", `"a"`, api.ErrValid},
	} {
		s, n := parsed(t, c.schema), doc(t, c.doc)
		if e := valid.Check(s, n); e != c.e {
			t.Errorf("%q, %s: %d", c.schema, c.doc, e)
		}
		if got := badOf(s, n); got != none {
			t.Errorf("%q, %s: %s", c.schema, c.doc, got)
		}
	}
}

func TestV1Kinds(t *testing.T) {
	for _, c := range []struct{ doc, want string }{
		{"doc[]", ""},
		{"doc[p[]]", "p"},
		{`doc["a"]`, "text"},
		{`doc[p[]"a""b"<b>q[]p["x"r[]]]`, "p text text q p"},
	} {
		if got := valid.Kinds(doc(t, c.doc).Kids); strings.Join(got, " ") != c.want || len(got) != len(strings.Fields(c.want)) {
			t.Errorf("%s: %q", c.doc, got)
		}
	}
	odd := []api.Node{{}, {Kind: "No Name", Kids: []api.Node{of("p")}}, {Kind: "\xff"}, {Kind: api.TextKind}, {Kind: "p", Text: "x"}}
	if got := valid.Kinds(odd); !slices.Equal(got, []string{"", "No Name", "\xff", "text", "p"}) {
		t.Errorf("%q", got)
	}
	if len(valid.Kinds(nil)) != 0 || len(valid.Kinds([]api.Node{})) != 0 {
		t.Error("of nothing")
	}
}

func TestV2Fresh(t *testing.T) {
	s := parsed(t, notes)
	many := parsed(t, "node a a=* b=r|l c=x d=f|e|d|c|b|a: b+\nnode b: ()\n")
	for _, c := range []struct {
		s    schema.Schema
		kind string
		want string
		fits bool
	}{
		{s, "doc", "doc[]", false},
		{s, "para", `para(align="left" note="")[]`, true},
		{s, "list", "list[]", false},
		{s, "item", "item[]", false},
		{s, "box", "box[]", true},
		{many, "a", `a(a="" b="r" c="x" d="f")[]`, false},
		{many, "b", "b[]", true},
	} {
		n, e := valid.Fresh(c.s, c.kind)
		if got, f := codec.Print(n); got != c.want || e != api.OK || f != api.OK {
			t.Errorf("%s: %s, %d, %d", c.kind, got, e, f)
		}
		if got := badOf(c.s, n); (got == none) != c.fits || !c.fits && got != "" {
			t.Errorf("%s: %s", c.kind, got)
		}
	}
}

func TestV2Wrong(t *testing.T) {
	s := parsed(t, notes)
	for _, kind := range []string{"", "none", "text", "b", "i", "align", "note", "left", "Doc", "doc ", "docs", "do", "\xff", "*", "()"} {
		if n, e := valid.Fresh(s, kind); e != api.ErrNone || !reflect.DeepEqual(n, api.Node{}) {
			t.Errorf("%q: %v, %d", kind, n, e)
		}
	}
	for what, s := range wrongSchemas(t) {
		for _, kind := range []string{"doc", "para", "box", "none", "", "text"} {
			if n, e := valid.Fresh(s, kind); e != api.ErrArg || !reflect.DeepEqual(n, api.Node{}) {
				t.Errorf("%s, %q: %v, %d", what, kind, n, e)
			}
		}
	}
}

// TestExample holds the example of the chapter.
func TestExample(t *testing.T) {
	s := parsed(t, "node doc: para+\nnode para: text*\n")
	if e := valid.Check(s, doc(t, "doc[]")); e != api.ErrValid {
		t.Error(e)
	}
	if e := valid.Check(s, doc(t, "doc[para[]]")); e != api.OK {
		t.Error(e)
	}
}
