package node_test

import (
	"strings"
	"testing"

	"diptych/api"
	"diptych/node"
)

func text(s string, marks ...string) api.Node {
	return api.Node{Kind: api.TextKind, Text: s, Marks: marks}
}

func of(kind string, kids ...api.Node) api.Node { return api.Node{Kind: kind, Kids: kids} }

func attr(name, value string) api.Attr { return api.Attr{Name: name, Value: value} }

func with(kind string, attrs ...api.Attr) api.Node { return api.Node{Kind: kind, Attrs: attrs} }

// nest puts n into as many nodes in one another.
func nest(n api.Node, times int) api.Node {
	for range times {
		n = of("p", n)
	}
	return n
}

// oddText is a text that is not well formed: it has attributes and kids, which do not count.
func oddText(s string) api.Node {
	return api.Node{Kind: api.TextKind, Text: s, Attrs: []api.Attr{attr("a", "1")}, Kids: []api.Node{of("p", text("inner"))}}
}

func TestN1Name(t *testing.T) {
	for _, s := range []string{"a", "z", "az", "para", "abcdefgh", "zzzzzzzz", "tex", "texts", "textt", "atext"} {
		if !node.Name(s) {
			t.Errorf("%q is a name", s)
		}
	}
	for _, s := range []string{"", "text", "abcdefghi", strings.Repeat("a", 1<<16), "A", "aB", "Text", "a1", "1", "a b", " a", "a ", "a-b", "a_b", "é", "aé", "\xff", "a\x00", "`", "{", "a`", "a{"} {
		if node.Name(s) {
			t.Errorf("%q is no name", s)
		}
	}
}

func TestN1Value(t *testing.T) {
	forty := strings.Repeat("x", 40)
	for _, s := range []string{"", "a", "text", "A b\n\x00\"\\", "é", forty, strings.Repeat("é", 20), strings.Repeat("😀", 10), "\ufffd"} {
		if !node.Value(s) {
			t.Errorf("%q is a value", s)
		}
	}
	for _, s := range []string{forty + "x", strings.Repeat("é", 20) + "x", strings.Repeat("é", 21), "\xff", "a\xc3", "\xc0\x80", "\xed\xa0\x80", forty[:39] + "é"} {
		if node.Value(s) {
			t.Errorf("%q is no value", s)
		}
	}
	if node.MaxValue != 40 {
		t.Error(node.MaxValue)
	}
}

func checkAll(t *testing.T, want api.Errno, l []api.Node) {
	t.Helper()
	for i, n := range l {
		if e := node.Check(n); e != want {
			t.Errorf("%d: Check is %d, not %d: %.200q", i, e, want, n)
		}
		if node.Right(n) != (want == api.OK) {
			t.Errorf("%d: Right is %v: %.200q", i, !(want == api.OK), n)
		}
	}
}

func TestN1CheckRight(t *testing.T) {
	checkAll(t, api.OK, []api.Node{
		of("doc", of("para", text("hi"))),
		of("doc"),
		of("abcdefgh"),
		text("a"),
		text("é\n\"日本\x00"),
		text("\ufffd"),
		text("a", "b", "i"),
		text("a", "a", "aa", "b"),
		text("a", "abcdefgh"),
		of("p", text("a"), text("b", "b")),
		of("p", text("a", "b"), text("b", "b", "i"), text("c", "b")),
		of("p", text("a", "b"), of("q"), text("b", "b")),
		of("p", of("q"), of("q")),
		of("p", of("q", text("a")), of("q", text("a"))),
		of("p", text("a"), of("q", text("b")), text("c")),
		with("p", attr("a", "1"), attr("b", "")),
		with("p", attr("a", "1"), attr("aa", "1"), attr("b", "1")),
		with("p", attr("abcdefgh", strings.Repeat("x", 40))),
		{Kind: "p", Marks: []string{}, Attrs: []api.Attr{}, Kids: []api.Node{}},
		{Kind: "text", Text: "a", Marks: []string{}, Attrs: []api.Attr{}, Kids: []api.Node{}},
	})
}

func TestN1CheckWrongTexts(t *testing.T) {
	wrong := []api.Node{
		text(""),
		text("", "b"),
		text("\xff"),
		text("ab\xc3"),
		text("a", "i", "b"),
		text("a", "b", "b"),
		text("a", "b", "a", "c"),
		text("a", "text"),
		text("a", ""),
		text("a", "B"),
		text("a", "b", "abcdefghi"),
		text("a", "abcdefghi"),
		{Kind: "text", Text: "x", Attrs: []api.Attr{attr("a", "1")}},
		{Kind: "text", Text: "x", Kids: []api.Node{text("y")}},
		{Kind: "text", Text: "x", Kids: []api.Node{of("p")}},
		{Kind: "text"},
	}
	checkAll(t, api.ErrForm, wrong)
	checkAll(t, api.ErrForm, within(wrong))
}

func TestN1CheckWrongNodes(t *testing.T) {
	wrong := []api.Node{
		{},
		of("P"),
		of(""),
		of("abcdefghi"),
		of("p1"),
		of("\xff"),
		{Kind: "p", Text: "x"},
		{Kind: "p", Marks: []string{"b"}},
		with("p", attr("b", ""), attr("a", "")),
		with("p", attr("a", "1"), attr("a", "2")),
		with("p", attr("a", ""), attr("c", ""), attr("b", "")),
		with("p", attr("", "")),
		with("p", attr("text", "")),
		with("p", attr("abcdefghi", "")),
		with("p", attr("a", ""), attr("B", "")),
		with("p", attr("a", "\xff")),
		with("p", attr("a", strings.Repeat("x", 41))),
		with("p", attr("a", ""), attr("b", "\xff")),
		of("p", text("a"), text("b")),
		of("p", text("a", "b"), text("c", "b")),
		of("p", of("q"), text("a"), text("b")),
		of("p", text("a", "i"), text("b"), text("c")),
		of("p", api.Node{Kind: "text", Text: "a", Marks: []string{}}, text("b")),
	}
	checkAll(t, api.ErrForm, wrong)
	checkAll(t, api.ErrForm, within(wrong))
}

// within puts each node in between others, two levels down.
func within(l []api.Node) []api.Node {
	var around []api.Node
	for _, n := range l {
		around = append(around, of("doc", of("q"), of("para", of("q"), n, of("q"))))
	}
	return around
}

func TestN1CheckLimits(t *testing.T) {
	checkAll(t, api.OK, []api.Node{
		nest(of("p"), 39),
		nest(text("a"), 40),
		of("doc", nest(of("p"), 38), text("a")),
		text(strings.Repeat("é", 4000)),
		of("doc", text(strings.Repeat("é", 3998))),
		of("doc", of("p", text(strings.Repeat("a", 3996)))),
		{Kind: "doc", Kids: repeat(of("p"), 1999)},
	})
	checkAll(t, api.ErrDeep, []api.Node{
		nest(of("p"), 40),
		nest(text("a"), 41),
		of("doc", of("p"), nest(of("p"), 39), of("p")),
	})
	checkAll(t, api.ErrLarge, []api.Node{
		text(strings.Repeat("é", 4001)),
		of("doc", text(strings.Repeat("é", 3999))),
		of("doc", text(strings.Repeat("a", 3998)), text("b", "b")),
		{Kind: "doc", Kids: repeat(of("p"), 2000)},
		nest(text(strings.Repeat("a", 4000)), 40),
	})
}

func repeat(n api.Node, times int) []api.Node {
	var l []api.Node
	for range times {
		l = append(l, n)
	}
	return l
}

func TestN1CheckSeveralErrors(t *testing.T) {
	deep, large := nest(text("a"), 41), text(strings.Repeat("a", 4001))
	checkAll(t, api.ErrForm, []api.Node{
		of("doc", deep, text("")),
		of("doc", text(""), deep),
		of("doc", large, of("P")),
		of("doc", deep, large, of("P")),
		of("P", deep, large),
		nest(text("\xff"), 41),
		text(strings.Repeat("a", 4001) + "\xff"),
		of("doc", deep, large, text("x")),
	})
	checkAll(t, api.ErrDeep, []api.Node{
		of("doc", deep, large),
		of("doc", large, deep),
		nest(large, 41),
	})
}

func TestN1SizeDepth(t *testing.T) {
	bold := text("i", "b")
	for i, c := range []struct {
		n           api.Node
		size, depth int
	}{
		{of("doc", of("para", text("hi"))), 6, 2},
		{of("doc", of("para", text("hé"), bold), of("item")), 9, 2},
		{of("doc"), 2, 1},
		{of("doc", text("a")), 3, 1},
		{of("doc", of("p"), of("p", of("p")), of("p")), 10, 3},
		{text("a"), 1, 0},
		{text("日本"), 2, 0},
		{text("😀", "b"), 1, 0},
		{text("e\u0301"), 2, 0},
		{text(""), 0, 0},
		{text("\xff"), 1, 0},
		{text("a\xff\xfeé"), 4, 0},
		{text("\xe6\x97"), 2, 0},
		{oddText("ab"), 2, 0},
		{oddText(""), 0, 0},
		{of("p", oddText("ab")), 4, 1},
		{api.Node{}, 2, 1},
		{api.Node{Kind: "P", Text: "abc", Kids: []api.Node{text("x"), text("y")}}, 4, 1},
		{api.Node{Kind: "p", Text: "abc", Marks: []string{"b"}, Attrs: []api.Attr{attr("a", "b")}}, 2, 1},
		{nest(text("a"), 41), 83, 41},
		{text(strings.Repeat("é", 4001)), 4001, 0},
	} {
		if size, depth := node.Size(c.n), node.Depth(c.n); size != c.size || depth != c.depth {
			t.Errorf("%d: size %d, depth %d, not %d, %d", i, size, depth, c.size, c.depth)
		}
	}
}

func TestN1Total(t *testing.T) {
	for i, c := range []struct {
		l    []api.Node
		want int
	}{
		{nil, 0},
		{[]api.Node{}, 0},
		{[]api.Node{text("ab")}, 2},
		{[]api.Node{text("ab"), text("c"), of("p", text("d")), text("")}, 6},
		{[]api.Node{oddText("a\xff"), {Kind: "p", Text: "abc"}, {}}, 6},
		{repeat(of("p", text("é")), 5000), 15000},
	} {
		if total := node.Total(c.l); total != c.want {
			t.Errorf("%d: %d, not %d", i, total, c.want)
		}
	}
}

// sample has something in each field that a node may have, also where it is not well formed.
func sample() api.Node {
	return api.Node{
		Kind:  "p",
		Text:  "odd",
		Marks: []string{"m", "n"},
		Attrs: []api.Attr{attr("a", "1"), attr("b", "2")},
		Kids: []api.Node{
			text("x", "b", "i"),
			{Kind: "q", Attrs: []api.Attr{attr("c", "3")}, Kids: []api.Node{text("y", "b")}},
			oddText("z"),
		},
	}
}

// changes are ways to make a sample another node; each writes into a list or a field of it.
func changes() []func(n *api.Node) {
	return []func(n *api.Node){
		func(n *api.Node) { n.Kind = "q" },
		func(n *api.Node) { n.Kind = "text" },
		func(n *api.Node) { n.Text = "" },
		func(n *api.Node) { n.Marks[1] = "o" },
		func(n *api.Node) { n.Marks[0], n.Marks[1] = n.Marks[1], n.Marks[0] },
		func(n *api.Node) { n.Marks = n.Marks[:1] },
		func(n *api.Node) { n.Marks = nil },
		func(n *api.Node) { n.Attrs[0].Name = "aa" },
		func(n *api.Node) { n.Attrs[1].Value = "3" },
		func(n *api.Node) { n.Attrs[0], n.Attrs[1] = n.Attrs[1], n.Attrs[0] },
		func(n *api.Node) { n.Attrs = n.Attrs[:1] },
		func(n *api.Node) { n.Attrs = nil },
		func(n *api.Node) { n.Kids[0], n.Kids[1] = n.Kids[1], n.Kids[0] },
		func(n *api.Node) { n.Kids = n.Kids[:2] },
		func(n *api.Node) { n.Kids = nil },
		func(n *api.Node) { n.Kids[0].Text = "w" },
		func(n *api.Node) { n.Kids[0].Marks[1] = "j" },
		func(n *api.Node) { n.Kids[1].Attrs[0].Value = "4" },
		func(n *api.Node) { n.Kids[1].Kids[0].Text = "w" },
		func(n *api.Node) { n.Kids[1].Kids[0].Marks[0] = "c" },
		func(n *api.Node) { n.Kids[2].Attrs[0].Value = "2" },
		func(n *api.Node) { n.Kids[2].Kids[0].Kids[0].Text = "w" },
	}
}

func TestN2Same(t *testing.T) {
	if !node.Same(sample(), sample()) || !node.Same(api.Node{}, api.Node{}) {
		t.Error("the same nodes are not the same")
	}
	for i, change := range changes() {
		other := sample()
		change(&other)
		if node.Same(sample(), other) || node.Same(other, sample()) {
			t.Errorf("%d: another node is the same", i)
		}
		if !node.Same(other, other) {
			t.Errorf("%d: a node is not the same as itself", i)
		}
	}
	if node.Same(of("p", text("ab")), of("p", text("a"), text("b"))) {
		t.Error("texts that are not joined are the same as joined ones")
	}
}

func TestN2SameNilAndEmpty(t *testing.T) {
	empty := api.Node{Kind: "p", Marks: []string{}, Attrs: []api.Attr{}, Kids: []api.Node{}}
	if !node.Same(of("p"), empty) || !node.Same(empty, of("p")) {
		t.Error("nil and empty are not the same")
	}
	if !node.Same(of("doc", of("p")), of("doc", empty)) {
		t.Error("nil and empty are not the same further in")
	}
	if node.Same(empty, of("p", api.Node{})) || node.Same(with("p", api.Attr{}), empty) || node.Same(api.Node{Kind: "p", Marks: []string{""}}, empty) {
		t.Error("a list of an empty thing is the same as an empty list")
	}
}

func TestN2Join(t *testing.T) {
	emptyMarks := api.Node{Kind: "text", Text: "b", Marks: []string{}}
	for i, c := range []struct{ l, want []api.Node }{
		{nil, nil},
		{[]api.Node{}, nil},
		{[]api.Node{text("")}, nil},
		{[]api.Node{text(""), text("", "b"), oddText("")}, nil},
		{[]api.Node{text("a")}, []api.Node{text("a")}},
		{[]api.Node{text("a"), text("b")}, []api.Node{text("ab")}},
		{[]api.Node{text("a"), emptyMarks, text("c")}, []api.Node{text("abc")}},
		{[]api.Node{text("a"), text("b", "b")}, []api.Node{text("a"), text("b", "b")}},
		{[]api.Node{text("a", "b"), text("b", "i")}, []api.Node{text("a", "b"), text("b", "i")}},
		{[]api.Node{text("a", "b", "i"), text("b", "i", "b")}, []api.Node{text("a", "b", "i"), text("b", "i", "b")}},
		{[]api.Node{text("a", "b", "i"), text("b", "b", "i")}, []api.Node{text("ab", "b", "i")}},
		{[]api.Node{text("a"), text("", "b"), text("b")}, []api.Node{text("ab")}},
		{[]api.Node{text("a"), of("p"), text("b")}, []api.Node{text("a"), of("p"), text("b")}},
		{[]api.Node{of("p"), of("p")}, []api.Node{of("p"), of("p")}},
		{[]api.Node{of("p", text("a"), text("b"), text(""))}, []api.Node{of("p", text("a"), text("b"), text(""))}},
		{[]api.Node{{Kind: "p", Text: ""}, {Kind: "p", Text: "x"}, {Kind: "p", Text: "x"}}, []api.Node{{Kind: "p"}, {Kind: "p", Text: "x"}, {Kind: "p", Text: "x"}}},
		{[]api.Node{text("\xff"), text("\xfe")}, []api.Node{text("\xff\xfe")}},
		{
			[]api.Node{text(""), text("a"), text("b"), text("", "b"), text("c"), text("d", "b"), of("p"), text("e", "b"), text("f", "b"), text("g")},
			[]api.Node{text("abc"), text("d", "b"), of("p"), text("ef", "b"), text("g")},
		},
	} {
		if l := node.Join(c.l); !node.Same(of("x", l...), of("x", c.want...)) {
			t.Errorf("%d: %q, not %q", i, l, c.want)
		}
	}
}

func TestN2JoinKeepsTheLast(t *testing.T) {
	odd := oddText("c")
	want := oddText("abc")
	for i, l := range [][]api.Node{
		{text("a"), text("b"), odd},
		{text("ab"), odd, text("")},
		{oddText("a"), text("b"), odd, text("", "b")},
	} {
		if got := node.Join(l); len(got) != 1 || !node.Same(got[0], want) {
			t.Errorf("%d: %q", i, got)
		}
	}
	if got := node.Join([]api.Node{odd, text("d")}); len(got) != 1 || !node.Same(got[0], text("cd")) {
		t.Errorf("%q", got)
	}
	if got := node.Join([]api.Node{text("d"), oddText("")}); len(got) != 1 || !node.Same(got[0], text("d")) {
		t.Errorf("%q", got)
	}
}

func TestN2Words(t *testing.T) {
	for i, c := range []struct {
		n    api.Node
		want string
	}{
		{of("doc"), ""},
		{text(""), ""},
		{text("hé", "b"), "hé"},
		{of("doc", of("para", text("hé"), text("i", "b")), of("item"), text("!")), "héi!"},
		{of("doc", text("a"), of("p", text("b"), of("q", text("c")), text("d")), text("e")), "abcde"},
		{oddText("ab"), "ab"},
		{oddText(""), ""},
		{of("p", oddText("ab"), text("c")), "abc"},
		{api.Node{Kind: "p", Text: "no", Kids: []api.Node{text("x")}}, "x"},
		{api.Node{Text: "no"}, ""},
		{of("p", text("\xff"), text("\xfe")), "\xff\xfe"},
		{with("p", attr("a", "no")), ""},
	} {
		if words := node.Words(c.n); words != c.want {
			t.Errorf("%d: %q, not %q", i, words, c.want)
		}
	}
}

func TestN2Copy(t *testing.T) {
	for i, n := range []api.Node{{}, text("a", "b"), of("p"), sample(), oddText("x"), {Kind: "p", Kids: []api.Node{}, Marks: []string{}}} {
		if !node.Same(n, node.Copy(n)) {
			t.Errorf("%d: not the same", i)
		}
	}
	for i, change := range changes() {
		n := sample()
		m := node.Copy(n)
		change(&m)
		if !node.Same(n, sample()) {
			t.Errorf("%d: a change of the copy is seen in the node", i)
		}
		m = node.Copy(n)
		change(&n)
		if !node.Same(m, sample()) {
			t.Errorf("%d: a change of the node is seen in the copy", i)
		}
	}
}

func TestN2CopySharesNothingBehindTheLength(t *testing.T) {
	kids := []api.Node{text("a"), text("b")}
	marks := []string{"a", "b"}
	attrs := []api.Attr{attr("a", "1"), attr("b", "2")}
	m := node.Copy(api.Node{Kind: "p", Marks: marks[:0], Attrs: attrs[:1], Kids: kids[:0]})
	m.Marks, m.Attrs, m.Kids = append(m.Marks, "z"), append(m.Attrs, attr("z", "")), append(m.Kids, text("z"))
	if marks[0] != "a" || attrs[1].Name != "b" || kids[0].Text != "a" {
		t.Error(marks, attrs, kids)
	}
}
