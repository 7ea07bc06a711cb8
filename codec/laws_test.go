package codec_test

import (
	"slices"
	"strings"
	"testing"

	"diptych/api"
	"diptych/codec"
	"diptych/node"
)

// some are all lists of up to two of some nodes, and these in nodes, with and without attributes.
func some() []api.Node {
	l := []api.Node{of("p"), with("p", attr("a", "")), with("q", attr("a", `"`), attr("b", `\`))}
	for _, s := range []string{"a", `"`, `\`, `\"`, "]", "é", "[]", `"<b>`, "\ufffd"} {
		l = append(l, text(s), text(s, "b"), text(s, "b", "i"))
	}
	first := slices.Clone(l)
	for _, a := range first {
		l = append(l, of("p", a), api.Node{Kind: "q", Attrs: []api.Attr{attr("a", "]")}, Kids: []api.Node{a}})
		for _, b := range first {
			l = append(l, of("p", a, b), of("p", of("q", a), b), of("p", a, of("q", b)))
		}
	}
	return slices.DeleteFunc(l, func(n api.Node) bool { return !node.Right(n) })
}

func TestC3ParseOfPrint(t *testing.T) {
	seen := map[string]api.Node{}
	for _, n := range some() {
		s, e := codec.Print(n)
		if e != api.OK {
			t.Fatalf("%q: %d", n, e)
		}
		if m, e := codec.Parse(s); e != api.OK || !node.Same(n, m) {
			t.Errorf("%q: %q, %d", s, m, e)
		}
		if m, ok := seen[s]; ok && !node.Same(n, m) {
			t.Errorf("%q: two nodes are written alike: %q, %q", s, n, m)
		}
		seen[s] = n
		if l, e := codec.ParseAll(s); e != api.OK || len(l) != 1 || !node.Same(n, l[0]) {
			t.Errorf("%q: %q, %d", s, l, e)
		}
		all, e := codec.PrintAll(n.Kids)
		if l, f := codec.ParseAll(all); n.Kind != "text" && (e != api.OK || f != api.OK || !node.Same(of("x", n.Kids...), of("x", l...))) {
			t.Errorf("%q: %q, %d, %d", all, l, e, f)
		}
	}
}

// readsAsWritten: a text is either told an error, or just how its node is written.
func readsAsWritten(t *testing.T, s string) bool {
	t.Helper()
	n, e := codec.Parse(s)
	if e != api.OK && !node.Same(n, api.Node{}) {
		t.Errorf("%q: %q beside %d", s, n, e)
	}
	if p, f := codec.Print(n); e == api.OK && (p != s || f != api.OK) {
		t.Errorf("%q: read, and written %q, %d", s, p, f)
	}
	l, f := codec.ParseAll(s)
	if p, g := codec.PrintAll(l); f == api.OK && (p != s || g != api.OK) {
		t.Errorf("%q: read, and written %q, %d", s, p, g)
	}
	return e == api.OK
}

// TestC3PrintOfParse looks at all short texts, and at all that differ in one byte from one that is a node.
func TestC3PrintOfParse(t *testing.T) {
	const letters = "ab\"\\[]()<>,= \xff"
	right := 0
	var grow func(s string, more int)
	grow = func(s string, more int) {
		if readsAsWritten(t, s) {
			right++
		}
		for i := 0; more > 0 && i < len(letters); i++ {
			grow(s+letters[i:i+1], more-1)
		}
	}
	grow("", 5)
	if right < 500 {
		t.Error(right)
	}
	for _, c := range pairs()[:25] {
		for i := range len(c.s) + 1 {
			for j := range len(letters) {
				readsAsWritten(t, c.s[:i]+letters[j:j+1]+c.s[i:])
				readsAsWritten(t, c.s[:i]+letters[j:j+1]+c.s[min(i+1, len(c.s)):])
			}
			readsAsWritten(t, c.s[:i]+c.s[min(i+1, len(c.s)):])
			if readsAsWritten(t, c.s[:i]) != (i == len(c.s)) && c.n.Kind != "text" {
				t.Errorf("%q is taken", c.s[:i])
			}
		}
	}
}

func TestP1(t *testing.T) {
	const deepest = 1<<16 - 1
	if n, e := codec.Parse(nested(`"a"`, deepest)); e != api.ErrDeep || n.Kind != "" {
		t.Error("deep", e)
	}
	if l, e := codec.ParseAll("p[]" + nested("", deepest-1)); e != api.ErrDeep || len(l) != 0 {
		t.Error("deep", e)
	}
	if s, e := codec.Print(nest(text("a"), deepest)); s != "" || e != api.ErrDeep {
		t.Error("deep", e)
	}
	const many = 1 << 18
	for _, part := range []string{"p[", "]", "p", "p(", `"`, `\`, `"\`, `\"`, `"a"<`, `"a"<b,`, ",", `p(a="`, `p(a="1" `, " ", "[", "<", "=", `""`, "\xff"} {
		s := strings.Repeat(part, many)
		if _, e := codec.Parse(s); e != api.ErrForm {
			t.Errorf("much of %q: %d", part, e)
		}
		if len(codec.Quote(s)) < len(s)+2 || len(codec.Head(of(s))) != len(s) {
			t.Errorf("much of %q", part)
		}
		if m, e := codec.Parse("p[" + codec.Quote(s) + "]"); part[0] != 0xff && (e != api.ErrLarge || m.Kind != "") {
			t.Errorf("much of %q, quoted: %d", part, e)
		}
	}
	if _, e := codec.Parse("p[" + strings.Repeat("q[]", many) + "]"); e != api.ErrLarge {
		t.Error("wide", e)
	}
	if _, e := codec.Parse("p(" + strings.Repeat(`a="" `, many) + `a="")[]`); e != api.ErrForm {
		t.Error("wide: attributes", e)
	}
	if s := codec.Head(text("", slices.Repeat([]string{"b"}, many)...)); s != "<"+strings.Repeat("b,", many-1)+"b>" {
		t.Error("wide: marks")
	}
}

// behind is a node whose lists hold, behind their lengths, what would make another text of it.
func behind() api.Node {
	odd := text("!")
	return api.Node{
		Kind:  "doc",
		Attrs: []api.Attr{attr("a", "1"), attr("b", "2"), attr("A", "!")}[:2],
		Kids:  []api.Node{{Kind: "text", Text: "x", Marks: []string{"b", "i", "!"}[:2]}, of("p", text("y")), odd, odd}[:2],
	}
}

func TestP3NothingIsWrittenInto(t *testing.T) {
	n := behind()
	s, e := codec.Print(n)
	if s != `doc(a="1" b="2")["x"<b,i>p["y"]]` || e != api.OK {
		t.Error(s, e)
	}
	if s, e := codec.PrintAll(n.Kids); s != `"x"<b,i>p["y"]` || e != api.OK {
		t.Error(s, e)
	}
	if s := codec.Head(n) + codec.Head(n.Kids[0]); s != `doc(a="1" b="2")<b,i>` {
		t.Error(s)
	}
	all := func(n api.Node) api.Node {
		n.Attrs, n.Kids = n.Attrs[:3], slices.Clone(n.Kids[:4])
		n.Kids[0].Marks = n.Kids[0].Marks[:3]
		return n
	}
	if !node.Same(all(n), all(behind())) {
		t.Errorf("%q", all(n))
	}
}

// TestP3AnswersShareNoLists writes into each list of an answer, and behind it: nothing else may change by that.
func TestP3AnswersShareNoLists(t *testing.T) {
	const s = `p["a"<b>q(a="1")["c"]r["d"s[]]"e"<i,j>]q(a="1" b="2")["f"]`
	want, _ := codec.ParseAll(s)
	got, e := codec.ParseAll(s)
	if e != api.OK {
		t.Fatal(e)
	}
	var spoil func(l []api.Node)
	spoil = func(l []api.Node) {
		for i := range l {
			n := &l[i]
			_ = append(n.Marks, "behind")
			_ = append(n.Attrs, attr("behind", ""))
			_ = append(n.Kids, of("behind"))
			spoil(n.Kids)
		}
	}
	spoil(got)
	if !node.Same(of("x", got...), of("x", want...)) {
		t.Errorf("lists of an answer lie in one another: %q", got)
	}
	for i := range got {
		got[i].Attrs = append(got[i].Attrs[:0], attr("z", "z"))
		got[i].Kids = append(got[i].Kids[:0], of("z"))
	}
	if p, e := codec.PrintAll(want); p != s || e != api.OK {
		t.Errorf("another answer changed: %q", p)
	}
}

// TestP4 asks the same twice, with other calls between.
func TestP4(t *testing.T) {
	for _, c := range pairs() {
		first, _ := codec.Parse(c.s)
		codec.Parse(`p["`)
		codec.ParseAll("q[]" + c.s)
		again, _ := codec.Parse(c.s)
		one, _ := codec.Print(first)
		two, _ := codec.Print(again)
		if one != c.s || two != c.s {
			t.Errorf("%.200q: %.200q", c.s, two)
		}
	}
}
