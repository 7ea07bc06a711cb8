package valid_test

import (
	"reflect"
	"slices"
	"strings"
	"sync"
	"testing"

	"diptych/api"
	"diptych/expr"
	"diptych/schema"
	"diptych/valid"
)

const many = 1 << 16

func letters(i int) string {
	return "a" + string([]byte{'a' + byte(i/26/26), 'a' + byte(i/26%26), 'a' + byte(i%26)})
}

// largeSchemas are not right, and large.
func largeSchemas() map[string]schema.Schema {
	long := strings.Repeat("a", many)
	a := schema.Kind{Name: "a", Content: expr.Expr{Op: expr.Star, Kids: []expr.Expr{name("a")}}}
	deep := name("a")
	for range many - 2 {
		deep = expr.Expr{Op: expr.Seq, Kids: []expr.Expr{deep, name("a")}}
	}
	values := a
	values.Attrs = []schema.Decl{{Name: "x", Values: slices.Repeat([]string{"l"}, many)}}
	return map[string]schema.Schema{
		"kinds":   {Kinds: slices.Repeat([]schema.Kind{a}, many)},
		"marks":   {Kinds: []schema.Kind{a}, Marks: slices.Repeat([]string{"m"}, many)},
		"values":  {Kinds: []schema.Kind{values}},
		"wide":    {Kinds: []schema.Kind{{Name: "a", Content: expr.Expr{Op: expr.Alt, Kids: slices.Repeat([]expr.Expr{name("a")}, many)}}}},
		"deep":    {Kinds: []schema.Kind{{Name: "a", Content: deep}}},
		"names":   {Kinds: []schema.Kind{{Name: long, Content: name(long)}}, Marks: []string{long}},
		"nothing": {Kinds: []schema.Kind{{}}},
	}
}

// largeNodes are not right, or too deep, or too large.
func largeNodes() map[string]api.Node {
	long := strings.Repeat("a", many)
	x := api.Attr{Name: "x", Value: "r"}
	full := text(long, slices.Repeat([]string{"m"}, many)...)
	full.Kids = slices.Repeat([]api.Node{of("a")}, many)
	return map[string]api.Node{
		"deep":  nested("a", many),
		"wide":  of("a", slices.Repeat([]api.Node{of("a")}, many)...),
		"attrs": with(of("a"), slices.Repeat([]api.Attr{x}, many)...),
		"all":   of("a", slices.Repeat([]api.Node{with(of("a"), x)}, many)...),
		"texts": of("a", slices.Repeat([]api.Node{text("x", "m")}, many)...),
		"text":  full,
		"names": with(of(long), api.Attr{Name: long, Value: long}),
	}
}

// TestP1Large: what is too large, in whatever way, is soon told.
func TestP1Large(t *testing.T) {
	right := parsed(t, "node a: (a|text)*\nmark m\n")
	for what, n := range largeNodes() {
		for how, s := range largeSchemas() {
			if e := valid.Check(s, n); e != api.ErrArg {
				t.Error(what, how, e)
			}
			valid.Bad(s, n)
		}
		if e := valid.Check(right, n); e != api.ErrForm && e != api.ErrDeep && e != api.ErrLarge {
			t.Error(what, e)
		}
		valid.Bad(right, n)
		if got := valid.Kinds(n.Kids); len(got) != len(n.Kids) {
			t.Error(what, len(got))
		}
	}
	for how, s := range largeSchemas() {
		if n, e := valid.Fresh(s, "a"); e != api.ErrArg || !reflect.DeepEqual(n, api.Node{}) {
			t.Error(how, e)
		}
	}
	if n, e := valid.Fresh(right, strings.Repeat("a", many)); e != api.ErrNone || !reflect.DeepEqual(n, api.Node{}) {
		t.Error(n, e)
	}
}

// TestP1ManyAttributes: there is no limit to those of a kind.
func TestP1ManyAttributes(t *testing.T) {
	const attrs = 26 * 26 * 26
	s := parsed(t, "node doc: doc*|text*\n")
	for i := range attrs {
		s.Kinds[0].Attrs = append(s.Kinds[0].Attrs, schema.Decl{Name: letters(i), Values: []string{"l", "r"}})
	}
	n, e := valid.Fresh(s, "doc")
	if e != api.OK || len(n.Attrs) != attrs || valid.Check(s, n) != api.OK || badOf(s, n) != none {
		t.Error(e, len(n.Attrs), valid.Check(s, n))
	}
	for i, kid := range []api.Node{n, n, of("doc")} {
		n.Kids = append(n.Kids, kid)
		if bad := badOf(s, n); bad != []string{none, none, "/2"}[i] {
			t.Error(i, bad)
		}
	}
	n.Kids = slices.Repeat([]api.Node{of("doc")}, 1998)
	if bad := badOf(s, n); bad != "/0" || valid.Check(s, n) != api.ErrValid {
		t.Error(bad)
	}
}

// TestP1HardContents: the largest schema and the largest documents, many times.
func TestP1HardContents(t *testing.T) {
	const content = "(a|b)* a (a|b) (a|b) (a|b) (a|b) text?"
	lines := ""
	for _, k := range strings.Fields("doc c d e f g h i j k a b") {
		lines += "node " + k + ": (" + content + ")?\n"
	}
	s := parsed(t, lines)
	// To try one way through the content after the other would take too long with so many kids.
	row := []string{"a", "b", "b", "a"}
	n := of("doc")
	for i := range 1998 {
		n.Kids = append(n.Kids, of(row[i%len(row)]))
	}
	for range 20 {
		// The fifth one from behind must be an a.
		if e := valid.Check(s, n); e != api.ErrValid || badOf(s, n) != "" {
			t.Fatal(e)
		}
		n.Kids[1993] = of("a")
		if e := valid.Check(s, n); e != api.OK || badOf(s, n) != none {
			t.Fatal(e)
		}
		n.Kids[1993] = of("b")
	}
}

func TestP1Nothing(t *testing.T) {
	if e := valid.Check(schema.Schema{}, api.Node{}); e != api.ErrArg {
		t.Error(e)
	}
	valid.Bad(schema.Schema{}, api.Node{})
	if n, e := valid.Fresh(schema.Schema{}, ""); e != api.ErrArg || !reflect.DeepEqual(n, api.Node{}) {
		t.Error(n, e)
	}
	if len(valid.Kinds(nil)) != 0 {
		t.Error("kinds of nothing")
	}
}

// TestP2Nothing: where nothing is bad there is no path.
func TestP2Nothing(t *testing.T) {
	s := parsed(t, notes)
	for _, d := range []string{"doc[" + p + "]", "doc[list[item[" + p + "]]]", p} {
		if path, bad := valid.Bad(s, doc(t, d)); bad || len(path) != 0 {
			t.Error(d, path, bad)
		}
	}
}

// full are a schema and a document that it takes, with something behind the length of each of their lists.
func full() (schema.Schema, api.Node) {
	choice := expr.Expr{Op: expr.Alt, Kids: []expr.Expr{name("doc"), name("text"), name("behind")}}
	s := schema.Schema{
		Kinds: []schema.Kind{
			{Name: "doc", Content: expr.Expr{Op: expr.Star, Kids: []expr.Expr{choice}}, Attrs: []schema.Decl{{Name: "a", Values: []string{"x", "y", "behind"}}, {Name: "behind"}}},
			{Name: "behind", Content: expr.Expr{Op: expr.Seq}},
		},
		Marks: []string{"m", "n", "other"},
	}
	x := api.Attr{Name: "a", Value: "y"}
	n := with(of("doc", with(of("doc"), x, api.Attr{Name: "behind"}), text("t", "m", "n", "other"), of("behind")), x, api.Attr{Name: "behind"})
	reach(&s, &n, 0)
	return s, n
}

// reach sets the length of each list of full to what counts, and so many more.
func reach(s *schema.Schema, n *api.Node, more int) {
	s.Kinds, s.Marks = s.Kinds[:1+more], s.Marks[:2+more]
	k := &s.Kinds[0]
	k.Attrs = k.Attrs[:1+more]
	k.Attrs[0].Values = k.Attrs[0].Values[:2+more]
	k.Content.Kids[0].Kids = k.Content.Kids[0].Kids[:2+more]
	n.Attrs, n.Kids = n.Attrs[:1+more], n.Kids[:2+more]
	n.Kids[0].Attrs, n.Kids[1].Marks = n.Kids[0].Attrs[:1+more], n.Kids[1].Marks[:2+more]
}

func unchanged(s schema.Schema, n api.Node) bool {
	wasS, wasN := full()
	reach(&s, &n, 1)
	reach(&wasS, &wasN, 1)
	same := reflect.DeepEqual(s, wasS) && reflect.DeepEqual(n, wasN)
	reach(&s, &n, 0)
	return same
}

// TestP3NothingIsWrittenInto: what is handed in stays as it was, and what is behind it is not read.
func TestP3NothingIsWrittenInto(t *testing.T) {
	s, n := full()
	if e := valid.Check(s, n); e != api.OK || badOf(s, n) != none {
		t.Error(e, badOf(s, n))
	}
	if got := valid.Kinds(n.Kids); !slices.Equal(got, []string{"doc", "text"}) {
		t.Error(got)
	}
	if fresh, e := valid.Fresh(s, "doc"); e != api.OK || !slices.Equal(fresh.Attrs, []api.Attr{{Name: "a", Value: "x"}}) {
		t.Error(fresh, e)
	}
	if _, e := valid.Fresh(s, "behind"); e != api.ErrNone {
		t.Error(e)
	}
	for _, c := range []struct {
		bad string
		n   api.Node
	}{
		{"", of("behind")},
		{"", with(of("doc", of("behind")), n.Attrs...)},
		{"", with(of("doc"), api.Attr{Name: "a", Value: "behind"})},
		{"", with(of("doc"), n.Attrs[0], api.Attr{Name: "behind"})},
		{"/0", with(of("doc", text("t", "other")), n.Attrs...)},
	} {
		if e := valid.Check(s, c.n); e != api.ErrValid || badOf(s, c.n) != c.bad {
			t.Error(c.n, e, badOf(s, c.n))
		}
	}
	if !unchanged(s, n) {
		t.Error(s, n)
	}
}

// TestP3AnswersAreNew: what is done with one answer is not seen in another one, nor in what was handed in.
func TestP3AnswersAreNew(t *testing.T) {
	s, n := full()
	for range 2 {
		kinds := valid.Kinds(n.Kids)
		_ = append(kinds, "spoilt", "spoilt")
		kinds[0], kinds[1] = "spoilt", "spoilt"
		fresh, _ := valid.Fresh(s, "doc")
		_ = append(fresh.Attrs, api.Attr{Name: "spoilt"}, api.Attr{Name: "spoilt"})
		_ = append(fresh.Kids, of("spoilt"))
		fresh.Attrs[0] = api.Attr{Name: "spoilt"}
	}
	if !unchanged(s, n) || valid.Check(s, n) != api.OK {
		t.Error(s, n)
	}
	bad := with(of("doc", n.Kids[0], text("t", "other")), n.Attrs...)
	path, _ := valid.Bad(s, bad)
	again, _ := valid.Bad(s, bad)
	_ = append(path, 7, 7, 7, 7)
	path[0] = 7
	if third, _ := valid.Bad(s, bad); written(again) != "/1" || written(third) != "/1" {
		t.Error(again, third)
	}
}

// TestP3NothingIsKept: a schema that is changed between two calls is another one.
func TestP3NothingIsKept(t *testing.T) {
	s, n := parsed(t, "node doc: a b\nnode a: text*\nnode b: ()\n"), doc(t, `doc[a["x"]b[]]`)
	fresh, _ := valid.Fresh(s, "a")
	told := func(e api.Errno, bad string) {
		t.Helper()
		if got := valid.Check(s, n); got != e || badOf(s, n) != bad {
			t.Error(got, badOf(s, n))
		}
	}
	told(api.OK, none)
	s.Kinds[0].Content.Kids[1] = name("a")
	told(api.ErrValid, "")
	n.Kids[1].Kind = "a"
	told(api.OK, none)
	s.Kinds[1].Content.Kids[0] = name("b")
	told(api.ErrValid, "/0")
	s.Kinds[1].Content.Kids[0] = name("text")
	s.Kinds[1].Attrs = []schema.Decl{{Name: "x", Values: []string{"l"}}}
	told(api.ErrValid, "/0")
	s.Kinds[1].Attrs = nil
	told(api.OK, none)
	s.Kinds[0].Name = "root"
	told(api.ErrValid, "")
	s.Kinds[0].Name = ""
	if e := valid.Check(s, n); e != api.ErrArg {
		t.Error(e)
	}
	if !reflect.DeepEqual(fresh, of("a")) {
		t.Error(fresh)
	}
}

// TestP4TheSameAgain: also where many ask at once.
func TestP4TheSameAgain(t *testing.T) {
	s := parsed(t, notes)
	good, bad := doc(t, "doc["+p+"list[item["+p+"list[item["+p+"]]]]]"), doc(t, "doc["+p+"list[item["+p+"list[item[]]]]]")
	var all sync.WaitGroup
	for range 8 {
		all.Go(func() {
			for range 50 {
				e, f := valid.Check(s, good), valid.Check(s, bad)
				n, g := valid.Fresh(s, "para")
				if e != api.OK || f != api.ErrValid || badOf(s, good) != none || badOf(s, bad) != "/1/0/1/0" || g != api.OK || len(n.Attrs) != 2 {
					t.Error(e, f, badOf(s, good), badOf(s, bad), n, g)
				}
			}
		})
	}
	all.Wait()
}
