package schema_test

import (
	"reflect"
	"slices"
	"strings"
	"sync"
	"testing"

	"diptych/api"
	"diptych/expr"
	"diptych/schema"
)

// nest puts e into as many expressions in one another.
func nest(e expr.Expr, times int) expr.Expr {
	for i := range times {
		if i%2 == 0 {
			e = of(expr.Seq, e, name("text"))
		} else {
			e = of(expr.Alt, name("a"), e)
		}
	}
	return e
}

func checkWrong(t *testing.T, what string, s schema.Schema) {
	t.Helper()
	if text, e := schema.Print(s); schema.Right(s) || text != "" || e != api.ErrForm || schema.Same(s, s) || schema.Same(s, plain()) || schema.Same(plain(), s) {
		t.Error(what, len(text), e)
	}
}

// TestP1Large: what is not right, and large or deep, is soon told, and its kinds are found.
func TestP1Large(t *testing.T) {
	const many = 1 << 16
	long := strings.Repeat("a", many)
	last := kind("last", nest(name("a"), many-1), decl("b", slices.Repeat([]string{"x", long}, many)...), decl(long))
	for what, s := range map[string]schema.Schema{
		"kinds":   with(nil, append(slices.Repeat(kinds{kind("a", texts())}, many), last)...),
		"marks":   with(slices.Repeat([]string{"b"}, many), last),
		"values":  with(nil, kind("a", texts(), decl("a", slices.Repeat([]string{"x"}, many)...)), last),
		"attrs":   with(nil, kind("a", texts(), slices.Repeat(decls{decl("a")}, many)...), last),
		"content": with(nil, kind("a", of(expr.Alt, slices.Repeat([]expr.Expr{name("a")}, many)...)), last),
		"deep":    with(nil, kind("a", nest(nothing(), many-1)), last),
		"names":   with([]string{long}, kind(long, name(long), decl(long, long)), last),
		"none":    with(nil, kind("", expr.Expr{}), last),
	} {
		checkWrong(t, what, s)
		if k, ok := schema.Find(s, "last"); !ok || !reflect.DeepEqual(k, last) {
			t.Error(what, ok)
		}
		if k, ok := schema.Find(s, long+"b"); ok || !reflect.DeepEqual(k, schema.Kind{}) {
			t.Error(what, ok)
		}
	}
	if schema.Default(last.Attrs[0]) != "x" || !schema.Takes(last.Attrs[0], long) || schema.Takes(last.Attrs[0], "y") || schema.Takes(last.Attrs[1], long) {
		t.Error("values")
	}
}

func TestP1LongTexts(t *testing.T) {
	const long = 1 << 22
	for _, part := range []string{" ", "\n", ":", ": ", "=", "|", "*", "a", "(", "é", "\xff", "\x00", " a=*", " a=", "a|", "|a", "a b=* ", "node ", "mark ", "node a: ()", "node a: ()\n", "mark a\n", "node a: ()\nmark a\n", "node : \n", "mark \n"} {
		s := strings.Repeat(part, long/len(part))
		for _, text := range []string{s, "node " + s, "node a" + s + ": ()\n", "node a b=" + s + ": ()\n", "node a: " + s + "\n", "node a: ()\n" + s, "node a: ()\nmark " + s + "\n", s + "node a: ()\n"} {
			if got, e := schema.Parse(text); e != api.ErrForm || !empty(got) {
				t.Errorf("%.30q: %d", text, e)
			}
		}
	}
}

// TestP1ManyAttributes: there is no limit to those, so that a schema may be very long.
func TestP1ManyAttributes(t *testing.T) {
	const many = 26 * 26 * 26
	s := with(nil, kind("doc", texts()))
	for i := range many {
		s.Kinds[0].Attrs = append(s.Kinds[0].Attrs, decl("a"+string([]byte{'a' + byte(i/26/26), 'a' + byte(i/26%26), 'a' + byte(i%26)}), "x", "y"))
	}
	text, e := schema.Print(s)
	again, f := schema.Parse(text)
	if e != api.OK || f != api.OK || len(text) != len("node doc: text*\n")+many*len(" aaaa=x|y") || !schema.Same(s, again) {
		t.Error(len(text), e, f)
	}
	if k, ok := schema.Find(again, "doc"); !ok || len(k.Attrs) != many || k.Attrs[many-1].Name != "azzz" {
		t.Error(ok, len(k.Attrs))
	}
}

// hardest are kinds whose contents are as large as may be, and lead on in many ways.
func hardest(last string) schema.Schema {
	choice := of(expr.Alt, name("a"), name("b"))
	content := of(expr.Seq, of(expr.Star, choice), name("a"), choice, choice, choice, choice, name(last))
	s := with(nil)
	for _, n := range numbered(0, 10) {
		s.Kinds = append(s.Kinds, kind(n, content))
	}
	s.Kinds = append(s.Kinds, kind("a", texts()), kind("b", texts()))
	return s
}

func TestP1HardContents(t *testing.T) {
	a, b := hardest("a"), hardest("b")
	if !schema.Right(a) || !schema.Right(b) || !schema.Same(a, a) || schema.Same(a, b) || schema.Same(b, a) {
		t.Error("hard contents")
	}
}

func TestP1Nothing(t *testing.T) {
	checkWrong(t, "nothing", schema.Schema{})
	if k, ok := schema.Find(schema.Schema{}, ""); ok || !reflect.DeepEqual(k, schema.Kind{}) {
		t.Error(ok)
	}
	if schema.Default(schema.Decl{}) != "" || !schema.Takes(schema.Decl{}, "") || schema.Takes(schema.Decl{}, "\xff") {
		t.Error("nothing")
	}
}

// full is a schema with something behind the length of each of its lists.
func full() schema.Schema {
	s := with([]string{"b", "i", "behind"}[:2],
		kind("doc", of(expr.Alt, name("doc"), name("text"), name("behind")), decl("a", "x", "y", "behind"), decl("b"), decl("behind")),
		kind("item", of(expr.Plus, name("doc"), name("behind"))),
		kind("behind", nothing()))
	cut(&s)
	return s
}

func cut(s *schema.Schema) {
	s.Kinds = s.Kinds[:2]
	k := s.Kinds
	k[0].Attrs = k[0].Attrs[:2]
	k[0].Attrs[0].Values = k[0].Attrs[0].Values[:2]
	k[0].Content.Kids = k[0].Content.Kids[:2]
	k[1].Content.Kids = k[1].Content.Kids[:1]
}

const fullText = "node doc a=x|y b=*: doc|text\nnode item: doc+\nmark b\nmark i\n"

// unchanged holds s against full, also behind its lists.
func unchanged(s schema.Schema) bool {
	was := full()
	for _, p := range []*schema.Schema{&s, &was} {
		p.Marks, p.Kinds = p.Marks[:3], p.Kinds[:3]
		p.Kinds[0].Attrs = p.Kinds[0].Attrs[:3]
		p.Kinds[0].Attrs[0].Values = p.Kinds[0].Attrs[0].Values[:3]
		p.Kinds[0].Content.Kids = p.Kinds[0].Content.Kids[:3]
		p.Kinds[1].Content.Kids = p.Kinds[1].Content.Kids[:2]
	}
	same := reflect.DeepEqual(s, was)
	cut(&s)
	return same
}

// TestP3NothingIsWrittenInto: what is handed in stays as it was, and what is behind it is not read.
func TestP3NothingIsWrittenInto(t *testing.T) {
	s := full()
	if text, e := schema.Print(s); text != fullText || e != api.OK || !schema.Right(s) {
		t.Errorf("%q, %d", text, e)
	}
	if k, ok := schema.Find(s, "behind"); ok || k.Name != "" {
		t.Error("behind the kinds")
	}
	if k, ok := schema.Find(s, "doc"); !ok || len(k.Attrs) != 2 || len(k.Content.Kids) != 2 || len(k.Attrs[0].Values) != 2 {
		t.Error("behind a kind")
	}
	if schema.Takes(s.Kinds[0].Attrs[0], "behind") || schema.Default(s.Kinds[0].Attrs[0]) != "x" {
		t.Error("behind the values")
	}
	if !schema.Same(s, parsed(t, fullText)) || !schema.Same(parsed(t, fullText), s) || schema.Same(s, plain()) {
		t.Error("not the same")
	}
	if !unchanged(s) {
		t.Error(shown(s))
	}
	none := decl("a", "x")
	none.Values = none.Values[:0]
	if schema.Default(none) != "" || schema.Takes(none, "\xff") || !schema.Takes(none, "z") {
		t.Error("behind no values")
	}
}

// spoil writes into each list of a kind, and behind it.
func spoil(k schema.Kind) {
	_ = append(k.Attrs, decl("spoilt"), decl("spoilt"), decl("spoilt"))
	for i, d := range k.Attrs {
		_ = append(d.Values, "spoilt", "spoilt", "spoilt")
		for j := range d.Values {
			d.Values[j] = "spoilt"
		}
		k.Attrs[i].Name, k.Attrs[i].Values = "spoilt", []string{"spoilt"}
	}
	spoilExpr(k.Content)
}

func spoilExpr(e expr.Expr) {
	_ = append(e.Kids, name("spoilt"), name("spoilt"), name("spoilt"))
	for i, kid := range e.Kids {
		spoilExpr(kid)
		e.Kids[i] = name("spoilt")
	}
}

func spoilAll(s schema.Schema) {
	_ = append(s.Marks, "spoilt", "spoilt", "spoilt")
	for i := range s.Marks {
		s.Marks[i] = "spoilt"
	}
	for i, k := range s.Kinds {
		spoil(k)
		s.Kinds[i] = schema.Kind{Name: "spoilt"}
	}
}

// TestP3AnswersAreNew: what is done with one answer is not seen in another one, nor in what was handed in.
func TestP3AnswersAreNew(t *testing.T) {
	s := full()
	for range 2 {
		for _, n := range []string{"doc", "item"} {
			k, _ := schema.Find(s, n)
			spoil(k)
		}
	}
	if k, _ := schema.Find(s, "doc"); !unchanged(s) || shownKind(k) != shownKind(full().Kinds[0]) {
		t.Error(shown(s), shownKind(k))
	}
	for what, wrong := range wrongSchemas() {
		was := shown(wrong)
		for _, k := range wrong.Kinds {
			got, _ := schema.Find(wrong, k.Name)
			spoil(got)
		}
		if shown(wrong) != was {
			t.Error(what)
		}
	}
	first := parsed(t, plainText)
	again := parsed(t, plainText)
	spoilAll(first)
	if third := parsed(t, plainText); !same(again, plain()) || !same(third, plain()) {
		t.Error(shown(again), shown(third))
	}
}

// TestP3NoTwoListsShare: each list of a schema that is read, and of a kind that is found, is a list by itself.
func TestP3NoTwoListsShare(t *testing.T) {
	const text = "node doc a=x|y b=z c=x|y: (item text)*|item\nnode item a=x|y: (item text)*|item\nmark x\nmark y\n"
	for i := range 2 {
		s := parsed(t, text)
		want := shown(with(s.Marks, s.Kinds[1-i]))
		spoil(s.Kinds[i])
		if got := shown(with(s.Marks, s.Kinds[1-i])); got != want {
			t.Errorf("%d: %s, not %s", i, got, want)
		}
	}
	for i := range 3 {
		k, _ := schema.Find(parsed(t, text), "doc")
		want := slices.Delete(slices.Clone(k.Attrs), i, i+1)
		was := shownKind(kind("doc", k.Content, want...))
		_ = append(k.Attrs[i].Values, "spoilt", "spoilt")
		for j := range k.Attrs[i].Values {
			k.Attrs[i].Values[j] = "spoilt"
		}
		if got := shownKind(kind("doc", k.Content, want...)); got != was {
			t.Errorf("%d: %s, not %s", i, got, was)
		}
	}
}

// TestP3NothingIsKept: what was told stays, whatever becomes of what was handed in.
func TestP3NothingIsKept(t *testing.T) {
	s := plain()
	k, _ := schema.Find(s, "para")
	text, _ := schema.Print(s)
	spoilAll(s)
	if shownKind(k) != shownKind(plain().Kinds[1]) || text != plainText {
		t.Error(shownKind(k), text)
	}
	if again, ok := schema.Find(s, "para"); ok || schema.Right(s) || schema.Same(s, plain()) {
		t.Error(shownKind(again))
	}
	s = plain()
	if k, ok := schema.Find(s, "para"); !ok || shownKind(k) != shownKind(s.Kinds[1]) {
		t.Error(shownKind(k), ok)
	}
}

// TestP4TheSameAgain: also where many ask at once.
func TestP4TheSameAgain(t *testing.T) {
	s, other := plain(), plain()
	slices.Reverse(other.Kinds[1:])
	var all sync.WaitGroup
	for range 8 {
		all.Go(func() {
			for range 50 {
				text, e := schema.Print(s)
				read, f := schema.Parse(text)
				k, ok := schema.Find(read, "item")
				if text != plainText || e != api.OK || f != api.OK || !ok || shownKind(k) != shownKind(s.Kinds[3]) || !schema.Same(read, other) {
					t.Error(text, e, f, shownKind(k), ok)
				}
			}
		})
	}
	all.Wait()
}
