package schema_test

import (
	"reflect"
	"slices"
	"strings"
	"testing"

	"diptych/api"
	"diptych/expr"
	"diptych/node"
	"diptych/schema"
)

type (
	kinds = []schema.Kind
	decls = []schema.Decl
)

func name(s string) expr.Expr { return expr.Expr{Op: expr.Name, Name: s} }

func of(op byte, kids ...expr.Expr) expr.Expr { return expr.Expr{Op: op, Kids: kids} }

func decl(name string, values ...string) schema.Decl { return schema.Decl{Name: name, Values: values} }

func kind(name string, content expr.Expr, attrs ...schema.Decl) schema.Kind {
	return schema.Kind{Name: name, Content: content, Attrs: attrs}
}

func with(marks []string, l ...schema.Kind) schema.Schema {
	return schema.Schema{Kinds: l, Marks: marks}
}

func texts() expr.Expr { return of(expr.Star, name("text")) }

func nothing() expr.Expr { return of(expr.Seq) }

// plain is a right schema without anything special.
func plain() schema.Schema {
	return with([]string{"b", "i"},
		kind("doc", of(expr.Plus, of(expr.Alt, name("para"), name("list")))),
		kind("para", texts(), decl("align", "left", "right"), decl("note")),
		kind("list", of(expr.Plus, name("item"))),
		kind("item", of(expr.Seq, name("para"), of(expr.Opt, name("list")))))
}

const plainText = "node doc: (para|list)+\nnode para align=left|right note=*: text*\nnode list: item+\nnode item: para list?\nmark b\nmark i\n"

// numbered are names that rise.
func numbered(from, to int) []string {
	var l []string
	for i := range to - from {
		l = append(l, "k"+string(rune('a'+from+i)))
	}
	return l
}

func kindsOf(names []string) kinds {
	var l kinds
	for _, s := range names {
		l = append(l, kind(s, nothing()))
	}
	return l
}

// pair is a right schema, and how it is written.
type pair struct {
	s    schema.Schema
	text string
}

func pairs() []pair {
	full, fullText := with(numbered(0, 12), kindsOf(numbered(3, 15))...), ""
	for _, s := range numbered(3, 15) {
		fullText += "node " + s + ": ()\n"
	}
	for _, s := range numbered(0, 12) {
		fullText += "mark " + s + "\n"
	}
	return []pair{
		{plain(), plainText},
		{full, fullText},
		{with(nil, kind("doc", nothing())), "node doc: ()\n"},
		{with(nil, kind("doc", name("doc"))), "node doc: doc\n"},
		{with(nil, kind("doc", name("text"))), "node doc: text\n"},
		{with(nil, kind("abcdefgh", texts(), decl("zzzzzzzz", "abcdefgh"))), "node abcdefgh zzzzzzzz=abcdefgh: text*\n"},
		{with(nil, kind("a", texts(), decl("a", "a", "b", "c", "d", "e", "f"))), "node a a=a|b|c|d|e|f: text*\n"},
		{with(nil, kind("a", texts(), decl("a", "c", "a", "b"))), "node a a=c|a|b: text*\n"},
		{with(nil, kind("a", texts(), decl("a"), decl("aa", "x"), decl("b"))), "node a a=* aa=x b=*: text*\n"},
		{with([]string{"mark", "node"}, kind("node", name("mark"), decl("mark"), decl("node")), kind("mark", name("node"))), "node node mark=* node=*: mark\nnode mark: node\nmark mark\nmark node\n"},
		{with([]string{"a"}, kind("b", of(expr.Alt, name("a"), name("text"))), kind("a", nothing(), decl("b", "a", "b"))), "node b: a|text\nnode a b=a|b: ()\nmark a\n"},
		{with([]string{"texts"}, kind("tex", name("texts"), decl("te", "t", "texts")), kind("texts", nothing())), "node tex te=t|texts: texts\nnode texts: ()\nmark texts\n"},
		{with([]string{"a", "aa", "ab", "b"}, kind("a", of(expr.Seq, of(expr.Star, of(expr.Seq, name("a"), name("text"))), of(expr.Opt, name("a"))))), "node a: (a text)* a?\nmark a\nmark aa\nmark ab\nmark b\n"},
	}
}

func same(a, b schema.Schema) bool { return shown(a) == shown(b) }

// shown tells all of a schema, right or not.
func shown(s schema.Schema) string {
	out := ""
	for _, k := range s.Kinds {
		out += shownKind(k)
	}
	return out + "<" + strings.Join(s.Marks, ",") + ">"
}

func shownKind(k schema.Kind) string {
	out := "[" + k.Name + "]" + shownExpr(k.Content)
	for _, d := range k.Attrs {
		out += "(" + d.Name + "=" + strings.Join(d.Values, ",") + ")"
	}
	return out + ";"
}

func shownExpr(e expr.Expr) string {
	out := string(rune(e.Op)) + "<" + e.Name + ">{"
	for _, kid := range e.Kids {
		out += shownExpr(kid)
	}
	return out + "}"
}

func parsed(t *testing.T, text string) schema.Schema {
	t.Helper()
	s, e := schema.Parse(text)
	if e != api.OK {
		t.Fatalf("%q: %d", text, e)
	}
	return s
}

func empty(s schema.Schema) bool { return len(s.Kinds) == 0 && len(s.Marks) == 0 }

func TestLimits(t *testing.T) {
	if schema.MaxKinds != 12 || schema.MaxValues != 6 {
		t.Error(schema.MaxKinds, schema.MaxValues)
	}
}

func TestS1RightAndWritten(t *testing.T) {
	for _, p := range pairs() {
		if !schema.Right(p.s) {
			t.Errorf("%q is not right", p.text)
		}
		if text, e := schema.Print(p.s); text != p.text || e != api.OK {
			t.Errorf("%q is written %q, %d", p.text, text, e)
		}
		if s, e := schema.Parse(p.text); !same(s, p.s) || e != api.OK {
			t.Errorf("%q is read as %q, %d", p.text, shown(s), e)
		}
	}
}

// wrongNames are no names.
var wrongNames = []string{"", "text", "A", "a1", "a b", " a", "a ", "a\n", "a:", "a=", "a|", "*", "é", "\xff", "\x00", "abcdefghi", "`", "{", "aZ"}

// wrongSchemas are plain ones with one thing changed, by what is wrong.
func wrongSchemas() map[string]schema.Schema {
	all := map[string]schema.Schema{}
	add := func(what string, change func(s *schema.Schema)) {
		s := plain()
		change(&s)
		all[what] = s
	}
	for _, n := range wrongNames {
		add("root "+n, func(s *schema.Schema) { s.Kinds[0].Name = n })
		add("kind "+n, func(s *schema.Schema) { s.Kinds = append(s.Kinds, kind(n, texts())) })
		add("kind of itself "+n, func(s *schema.Schema) { s.Kinds = append(s.Kinds, kind(n, name(n))) })
		add("attribute "+n, func(s *schema.Schema) { s.Kinds[2].Attrs = decls{decl(n)} })
		add("first attribute "+n, func(s *schema.Schema) { s.Kinds[1].Attrs[0].Name = n })
		add("last attribute "+n, func(s *schema.Schema) { s.Kinds[1].Attrs[1].Name = n })
		add("value "+n, func(s *schema.Schema) { s.Kinds[1].Attrs[0].Values[1] = n })
		add("one value "+n, func(s *schema.Schema) { s.Kinds[1].Attrs[1].Values = []string{n} })
		add("mark "+n, func(s *schema.Schema) { s.Marks[0] = n })
		add("one mark "+n, func(s *schema.Schema) { s.Marks = []string{n} })
		add("last mark "+n, func(s *schema.Schema) { s.Marks = append(s.Marks, n) })
		if n != "text" {
			add("content "+n, func(s *schema.Schema) { s.Kinds[3].Content = name(n) })
		}
	}
	add("no kinds", func(s *schema.Schema) { s.Kinds = nil })
	add("no kinds, no marks", func(s *schema.Schema) { *s = schema.Schema{} })
	add("13 kinds", func(s *schema.Schema) { s.Kinds = kindsOf(numbered(0, 13)) })
	add("13 marks", func(s *schema.Schema) { s.Marks = numbered(0, 13) })
	add("7 values", func(s *schema.Schema) { s.Kinds[1].Attrs[0].Values = numbered(0, 7) })
	add("root twice", func(s *schema.Schema) { s.Kinds[3].Name = "doc"; s.Kinds[2].Content = texts() })
	add("kind twice", func(s *schema.Schema) { s.Kinds = append(s.Kinds, s.Kinds[1]) })
	add("attribute twice", func(s *schema.Schema) { s.Kinds[1].Attrs[1].Name = "align" })
	add("attributes fall", func(s *schema.Schema) { slices.Reverse(s.Kinds[1].Attrs) })
	add("attributes fall by bytes", func(s *schema.Schema) { s.Kinds[1].Attrs = decls{decl("b"), decl("aa")} })
	add("attributes fall at last", func(s *schema.Schema) { s.Kinds[1].Attrs = append(s.Kinds[1].Attrs, decl("b")) })
	add("value twice", func(s *schema.Schema) { s.Kinds[1].Attrs[0].Values = []string{"left", "left"} })
	add("value twice, apart", func(s *schema.Schema) { s.Kinds[1].Attrs[0].Values = []string{"a", "b", "c", "a"} })
	add("mark twice", func(s *schema.Schema) { s.Marks = []string{"b", "b"} })
	add("marks fall", func(s *schema.Schema) { s.Marks = []string{"i", "b"} })
	add("marks fall at last", func(s *schema.Schema) { s.Marks = []string{"b", "i", "a"} })
	add("unknown content", func(s *schema.Schema) { s.Kinds[0].Content = name("none") })
	add("unknown deep in content", func(s *schema.Schema) {
		s.Kinds[3].Content = of(expr.Seq, name("text"), of(expr.Opt, of(expr.Alt, name("para"), name("none"))))
	})
	add("a mark as content", func(s *schema.Schema) { s.Kinds[0].Content = name("b") })
	add("an attribute as content", func(s *schema.Schema) { s.Kinds[1].Content = name("align") })
	add("no content", func(s *schema.Schema) { s.Kinds[0].Content = expr.Expr{} })
	add("no content at last", func(s *schema.Schema) { s.Kinds[3].Content = expr.Expr{} })
	add("content that is not right", func(s *schema.Schema) { s.Kinds[2].Content = of(expr.Seq, name("item")) })
	add("content that is too large", func(s *schema.Schema) {
		s.Kinds[1].Content = of(expr.Seq, slices.Repeat([]expr.Expr{name("text")}, 24)...)
	})
	return all
}

func TestS1Wrong(t *testing.T) {
	for what, s := range wrongSchemas() {
		if text, e := schema.Print(s); schema.Right(s) || text != "" || e != api.ErrForm {
			t.Errorf("%q: %q, %d", what, text, e)
		}
	}
}

// TestS1Largest: what is just not too much is right.
func TestS1Largest(t *testing.T) {
	s := plain()
	s.Kinds[1].Content = of(expr.Seq, slices.Repeat([]expr.Expr{name("text")}, 23)...)
	s.Kinds[1].Attrs[0].Values = numbered(0, 6)
	s.Kinds = append(s.Kinds, kindsOf(numbered(0, 8))...)
	s.Marks = numbered(0, 12)
	for a := range 26 {
		for b := range 26 {
			s.Kinds[2].Attrs = append(s.Kinds[2].Attrs, decl("x"+string(rune('a'+a))+string(rune('a'+b))))
		}
	}
	text, e := schema.Print(s)
	if again, f := schema.Parse(text); !schema.Right(s) || e != api.OK || f != api.OK || !same(again, s) {
		t.Error(e, f)
	}
}

func TestS1ParseWrong(t *testing.T) {
	for _, text := range []string{
		"", "\n", " ", "node", "node \n", "node doc\n", "node doc:\n", "node doc: \n", "node : text\n", "node: text\n", ": text\n",
		"mark b\n", "mark\n", "node doc: text", "node doc: text\r\n", "node doc: text\n\n", "\nnode doc: text\n", "node doc: text\n ",
		"node doc: text \n", "node doc: text\n\x00", " node doc: text\n", "\ufeffnode doc: text\n", "node  doc: text\n", "node\tdoc: text\n",
		"node doc : text\n", "node doc:text\n", "node doc:  text\n", "node doc:\ttext\n", "Node doc: text\n", "nodes doc: text\n", "kind doc: text\n",
		"node doc: (text)\n", "node doc: text|\n", "node doc: text  text\n", "node doc: text: text\n", "node doc: text node doc: text\n", "node doc: none\n",
		"node text: text\n", "node doc: text\nnode doc: text\n", "node doc: a\nnode a: b\n", "node doc: text\nnode a text\n",
		"node doc a: text\n", "node doc a=: text\n", "node doc a=* : text\n", "node doc  a=*: text\n", "node doc a=*  b=*: text\n", "node doc a =*: text\n",
		"node doc a= *: text\n", "node doc a=x b: text\n", "node doc =*: text\n", "node doc =x: text\n", "node doc a==x: text\n", "node doc a=x=y: text\n",
		"node doc a=**: text\n", "node doc a=*|x: text\n", "node doc a=x|*: text\n", "node doc a=|: text\n", "node doc a=x|: text\n", "node doc a=|x: text\n",
		"node doc a=x||y: text\n", "node doc a=x|x: text\n", "node doc a=x| y: text\n", "node doc a=x |y: text\n", "node doc a=1: text\n", "node doc a=X: text\n",
		"node doc a=text: text\n", "node doc text=*: text\n", "node doc a=\"x\": text\n", "node doc a=abcdefghi: text\n", "node doc abcdefghi=*: text\n",
		"node doc a=a|b|c|d|e|f|g: text\n", "node doc a=* a=*: text\n", "node doc a=* a=x: text\n", "node doc b=* a=*: text\n", "node doc a=x,y: text\n",
		"node a=*: text\n", "node doc(a=*): text\n", "node doc a=x: y: text\n", "node doc a=x:text\n",
		"mark b\nnode doc: text\n", "node doc: a\nmark b\nnode a: text\n", "node doc: text\nmark \n", "node doc: text\nmark\n", "node doc: text\nmark b",
		"node doc: text\nmark b\n\n", "node doc: text\n\nmark b\n", "node doc: text\nmark  b\n", "node doc: text\nmark b \n", "node doc: text\nmark b i\n",
		"node doc: text\nmark i\nmark b\n", "node doc: text\nmark b\nmark b\n", "node doc: text\nmark text\n", "node doc: text\nmark B\n", "node doc: text\nmarks b\n",
		"node doc: text\nmark b: text\n", "node doc: text\nmark abcdefghi\n", "node abcdefghi: text\n", "node döc: text\n", "node doc: text\nmark \xff\n",
		"# doc\nnode doc: text\n", "node doc: text # doc\n",
	} {
		if s, e := schema.Parse(text); e != api.ErrForm || !reflect.DeepEqual(s, schema.Schema{}) {
			t.Errorf("%q: %s, %d", text, shown(s), e)
		}
	}
}

func TestS1ParseNumbers(t *testing.T) {
	for n := range 16 {
		want := api.OK
		if n > 12 {
			want = api.ErrForm
		}
		marks := "node doc: ()\n"
		for _, s := range numbered(0, n) {
			marks += "mark " + s + "\n"
		}
		if s, e := schema.Parse(marks); e != want || e == api.OK && len(s.Marks) != n {
			t.Error(n, "marks", e)
		}
		if n == 0 {
			continue
		}
		nodes := ""
		for _, s := range numbered(0, n) {
			nodes += "node " + s + ": ()\n"
		}
		if s, e := schema.Parse(nodes); e != want || e == api.OK && len(s.Kinds) != n {
			t.Error(n, "kinds", e)
		}
		if n > 6 {
			want = api.ErrForm
		}
		values := "node doc a=" + strings.Join(numbered(0, n), "|") + ": ()\n"
		if s, e := schema.Parse(values); e != want || e == api.OK && len(s.Kinds[0].Attrs[0].Values) != n {
			t.Error(n, "values", e)
		}
	}
}

func TestS2Find(t *testing.T) {
	for _, p := range pairs() {
		for _, k := range p.s.Kinds {
			if got, ok := schema.Find(p.s, k.Name); !ok || shownKind(got) != shownKind(k) {
				t.Errorf("%q, %s: %s, %t", p.text, k.Name, shownKind(got), ok)
			}
		}
		for _, s := range []string{"none", "", "text", "\xff", "do", "docs", "DOC", "align", "zzzzzzzz", "doc "} {
			if got, ok := schema.Find(p.s, s); ok || !reflect.DeepEqual(got, schema.Kind{}) {
				t.Errorf("%q, %q: %s, %t", p.text, s, shownKind(got), ok)
			}
		}
	}
}

// TestS2FindInWrong: a kind is found whatever else is wrong; of several the first one.
func TestS2FindInWrong(t *testing.T) {
	twice := with([]string{"z", "a"}, kind("b", name("none")), kind("a", expr.Expr{}, decl("z", "first", "first"), decl("a")), kind("a", texts()), kind("b", texts()), kind("", texts()), kind("text", nothing()), kind("\xff", nothing()))
	for i, s := range []string{"b", "a", "", "b", "", "text", "\xff"} {
		want := []int{0, 1, 4, 0, 4, 5, 6}[i]
		if got, ok := schema.Find(twice, s); !ok || shownKind(got) != shownKind(twice.Kinds[want]) {
			t.Errorf("%q: %s, %t", s, shownKind(got), ok)
		}
	}
	for what, s := range wrongSchemas() {
		for _, k := range s.Kinds {
			first := s.Kinds[slices.IndexFunc(s.Kinds, func(other schema.Kind) bool { return other.Name == k.Name })]
			if got, ok := schema.Find(s, k.Name); !ok || shownKind(got) != shownKind(first) {
				t.Errorf("%q, %q: %s, %t", what, k.Name, shownKind(got), ok)
			}
		}
		if got, ok := schema.Find(s, "nowhere"); ok || !reflect.DeepEqual(got, schema.Kind{}) {
			t.Errorf("%q: %s, %t", what, shownKind(got), ok)
		}
	}
}

func TestS2Default(t *testing.T) {
	for want, l := range map[string]decls{
		"":     {decl("note"), decl(""), {Name: "a", Values: []string{}}, decl("a", ""), decl("a", "", "b")},
		"left": {decl("align", "left"), decl("align", "left", "right"), decl("", "left", "a"), decl("a", "left", "left")},
		"z":    {decl("a", "z", "a"), decl("a", "z", "b", "c", "d", "e", "f", "g")},
		"\xff": {decl("a", "\xff")},
	} {
		for _, d := range l {
			if got := schema.Default(d); got != want {
				t.Errorf("%q: %q", d, got)
			}
		}
	}
}

func TestS2Takes(t *testing.T) {
	long := strings.Repeat("é", node.MaxValue/2)
	free, some := decl("note"), decl("align", "left", "right", "a")
	for value, want := range map[string][2]bool{
		"left": {true, true}, "right": {true, true}, "a": {true, true},
		"": {true, false}, "lef": {true, false}, "lefts": {true, false}, "Left": {true, false}, "left|right": {true, false}, "*": {true, false},
		"align": {true, false}, "text": {true, false}, "é \n\x00": {true, false}, long: {true, false},
		long + "a": {false, false}, strings.Repeat("a", 41): {false, false}, "\xff": {false, false}, "left\xc3": {false, false},
	} {
		if got := [2]bool{schema.Takes(free, value), schema.Takes(some, value)}; got != want {
			t.Errorf("%q: %t", value, got)
		}
	}
	// What is not right takes its values alone too.
	wrong := decl("", "", "\xff", "b", "b", "text", "f", "g", "h")
	for value, want := range map[string]bool{"": true, "\xff": true, "b": true, "text": true, "h": true, "a": false, " ": false} {
		if got := schema.Takes(wrong, value); got != want {
			t.Errorf("%q: %t", value, got)
		}
	}
}

func TestS3Same(t *testing.T) {
	const two = "node a: b*\nnode b x=l|r y=*: text*\nmark m\n"
	for _, c := range []struct {
		a, b string
		want bool
	}{
		{two, two, true},
		{plainText, plainText, true},
		{plainText, two, false},
		// The root, and the order of kinds.
		{"node a: b\nnode b: a?\n", "node b: a?\nnode a: b\n", false},
		{"node a: ()\nnode b: ()\n", "node b: ()\nnode a: ()\n", false},
		{"node a: ()\nnode b: c\nnode c: b?\n", "node a: ()\nnode c: b?\nnode b: c\n", true},
		{"node a: ()\nnode b: ()\nnode c: c\nnode d: d d\n", "node a: ()\nnode d: d d\nnode b: ()\nnode c: c\n", true},
		{"node a: ()\nnode b: c\nnode c: b?\n", "node a: ()\nnode c: c\nnode b: b?\n", false},
		// The names of kinds.
		{"node a: ()\n", "node b: ()\n", false},
		{"node a: ()\nnode b: ()\n", "node a: ()\n", false},
		{"node a: ()\nnode b: ()\n", "node a: ()\nnode c: ()\n", false},
		{"node a: ()\nnode b: ()\nnode c: ()\n", "node a: ()\nnode b: ()\nnode d: ()\n", false},
		// Marks.
		{"node a: ()\nmark b\n", "node a: ()\n", false},
		{"node a: ()\nmark b\n", "node a: ()\nmark c\n", false},
		{"node a: ()\nmark b\nmark c\n", "node a: ()\nmark b\n", false},
		{"node a: ()\nmark b\n", "node a: ()\nnode b: ()\n", false},
		// Attributes, also those of kinds in another order.
		{"node a x=*: ()\n", "node a: ()\n", false},
		{"node a x=*: ()\n", "node a y=*: ()\n", false},
		{"node a x=*: ()\n", "node a x=l: ()\n", false},
		{"node a x=l: ()\n", "node a x=r: ()\n", false},
		{"node a x=l|r: ()\n", "node a x=r|l: ()\n", false},
		{"node a x=l|r: ()\n", "node a x=l: ()\n", false},
		{"node a x=l|r y=*: ()\n", "node a x=l|r: ()\n", false},
		{"node a x=* y=*: ()\n", "node a x=*: ()\n", false},
		{"node a: ()\nnode b x=*: ()\n", "node a x=*: ()\nnode b: ()\n", false},
		{"node a: ()\nnode b x=l|r: ()\nnode c: ()\n", "node a: ()\nnode c: ()\nnode b x=l|r: ()\n", true},
		{"node a: ()\nnode b x=l|r: ()\nnode c: ()\n", "node a: ()\nnode c: ()\nnode b x=r|l: ()\n", false},
		// Contents.
		{"node a: text text*\n", "node a: text+\n", true},
		{"node a: text*\n", "node a: text+\n", false},
		{"node a: text+|()\n", "node a: text*\n", true},
		{"node a: (a|text)+\n", "node a: (text|a) (a|text)*\n", true},
		{"node a: (a|text)+\n", "node a: (text|a) (a|text)+\n", false},
		{"node a: a a|a text\n", "node a: a (text|a)\n", true},
		{"node a: a text\n", "node a: text a\n", false},
		{"node a: text\n", "node a: a\n", false},
		{"node a: ()\n", "node a: text?\n", false},
		{"node a: b*\nnode b: c\nnode c: ()\n", "node a: (b b*)?\nnode c: ()\nnode b: c\n", true},
		{"node a: b*\nnode b: c\nnode c: ()\n", "node a: (b b*)?\nnode c: ()\nnode b: c?\n", false},
	} {
		a, b := parsed(t, c.a), parsed(t, c.b)
		if schema.Same(a, b) != c.want || schema.Same(b, a) != c.want {
			t.Errorf("%q and %q: not %t", c.a, c.b, c.want)
		}
	}
}

// TestS3Wrong: what is not right is not the same as anything, not even as itself.
func TestS3Wrong(t *testing.T) {
	for what, s := range wrongSchemas() {
		if schema.Same(s, s) || schema.Same(s, plain()) || schema.Same(plain(), s) {
			t.Errorf("%q", what)
		}
	}
}

// TestExample holds the example of the chapter.
func TestExample(t *testing.T) {
	s := parsed(t, "node doc: para+\nnode para align=left|right: text*\nmark b\n")
	root, kind := s.Kinds[0], s.Kinds[1]
	if len(s.Kinds) != 2 || root.Name != "doc" || !expr.Has(root.Content, []string{"para", "para"}) || expr.Has(root.Content, nil) || len(root.Attrs) != 0 {
		t.Error(shown(s))
	}
	if kind.Name != "para" || len(kind.Attrs) != 1 || schema.Default(kind.Attrs[0]) != "left" || !slices.Equal(s.Marks, []string{"b"}) {
		t.Error(shown(s))
	}
}
