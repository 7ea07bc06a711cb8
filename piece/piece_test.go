package piece_test

import (
	"math"
	"strings"
	"testing"

	"diptych/api"
	"diptych/codec"
	"diptych/node"
	"diptych/piece"
)

func text(s string, marks ...string) api.Node {
	return api.Node{Kind: api.TextKind, Text: s, Marks: marks}
}

func of(kind string, kids ...api.Node) api.Node { return api.Node{Kind: kind, Kids: kids} }

// oddText is a text that is not well formed: it has attributes and kids, which do not count.
func oddText(s string, marks ...string) api.Node {
	n := text(s, marks...)
	n.Attrs, n.Kids = []api.Attr{{Name: "a", Value: "1"}}, []api.Node{of("p", text("inner"))}
	return n
}

// nest puts n into as many nodes in one another.
func nest(n api.Node, times int) api.Node {
	for range times {
		n = of("p", n)
	}
	return n
}

func parsed(t *testing.T, s string) api.Node {
	t.Helper()
	n, e := codec.Parse(s)
	if e != api.OK {
		t.Fatal(s, e)
	}
	return n
}

func parsedAll(t *testing.T, s string) []api.Node {
	t.Helper()
	return parsed(t, "x["+s+"]").Kids
}

type list = []api.Node

func same(a, b list) bool { return node.Same(of("x", a...), of("x", b...)) }

// none tells whether a node is the zero value.
func none(n api.Node) bool { return node.Same(n, api.Node{}) }

func checkSplit(t *testing.T, l list, at int, ahead, behind list) {
	t.Helper()
	a, b, e := piece.Split(l, at)
	if e != api.OK || !same(a, ahead) || !same(b, behind) {
		t.Errorf("%q at %d: %q, %q, %d", l, at, a, b, e)
	}
}

func checkNoSplit(t *testing.T, l list, at int, want api.Errno) {
	t.Helper()
	if a, b, e := piece.Split(l, at); e != want || len(a) != 0 || len(b) != 0 {
		t.Errorf("%.200q at %d: %d, not %d: %d and %d nodes", l, at, e, want, len(a), len(b))
	}
}

func TestC1Split(t *testing.T) {
	for _, c := range []struct {
		l             string
		at            int
		ahead, behind string
	}{
		{``, 0, ``, ``},
		{`"hi"`, 0, ``, `"hi"`},
		{`"hi"`, 1, `"h"`, `"i"`},
		{`"hi"`, 2, `"hi"`, ``},
		{`"hé日😀!"`, 2, `"hé"`, `"日😀!"`},
		{`"hé日😀!"`, 3, `"hé日"`, `"😀!"`},
		{`"hé日😀!"`, 4, `"hé日😀"`, `"!"`},
		{"\"e\u0301x\"", 1, `"e"`, "\"\u0301x\""},
		{"\"a\ufffdb\"", 2, "\"a\ufffd\"", `"b"`},
		{`p[]`, 0, ``, `p[]`},
		{`p[]`, 2, `p[]`, ``},
		{`p["x"q[]]`, 5, `p["x"q[]]`, ``},
		{`p[]q[]`, 2, `p[]`, `q[]`},
		{`"ab""c"<b>"de"`, 2, `"ab"`, `"c"<b>"de"`},
		{`"ab""c"<b>"de"`, 3, `"ab""c"<b>`, `"de"`},
		{`"ab""c"<b>"de"`, 4, `"ab""c"<b>"d"`, `"e"`},
		{`"abc"<b,i>`, 1, `"a"<b,i>`, `"bc"<b,i>`},
		{`p(a="1")["x"]"ab"<b>q(a="2")[]`, 4, `p(a="1")["x"]"a"<b>`, `"b"<b>q(a="2")[]`},
		{`p[]"ab"q[]`, 2, `p[]`, `"ab"q[]`},
		{`p[]"ab"q[]`, 4, `p[]"ab"`, `q[]`},
	} {
		checkSplit(t, parsedAll(t, c.l), c.at, parsedAll(t, c.ahead), parsedAll(t, c.behind))
	}
}

// TestC1SplitOddTexts: a text that is gone through becomes two that are alike but for their Texts, whatever they have; bytes that are no UTF-8 are code points as Go has them.
func TestC1SplitOddTexts(t *testing.T) {
	checkSplit(t, list{oddText("ab", "i", "b")}, 1, list{oddText("a", "i", "b")}, list{oddText("b", "i", "b")})
	checkSplit(t, list{oddText("ab")}, 2, list{oddText("ab")}, nil)
	for i, c := range []struct {
		s             string
		at            int
		ahead, behind string
	}{
		{"\xff\xfe", 1, "\xff", "\xfe"},
		{"\xe2\x82", 1, "\xe2", "\x82"},
		{"\xe2\x82\xac\xac", 1, "\xe2\x82\xac", "\xac"},
		{"a\xc3b\xc3\xa9", 2, "a\xc3", "b\xc3\xa9"},
		{"a\xc3b\xc3\xa9\xa9", 4, "a\xc3b\xc3\xa9", "\xa9"},
		{"\xed\xa0\x80", 2, "\xed\xa0", "\x80"},
		{"\x00\x00", 1, "\x00", "\x00"},
	} {
		a, b, e := piece.Split(list{of("p"), text(c.s, "b")}, c.at+2)
		if e != api.OK || !same(a, list{of("p"), text(c.ahead, "b")}) || !same(b, list{text(c.behind, "b")}) {
			t.Errorf("%d: %q, %q, %d", i, a, b, e)
		}
	}
}

// TestC1SplitOddNodes: what is no text is not looked into, and its Text does not count.
func TestC1SplitOddNodes(t *testing.T) {
	odd := api.Node{Kind: "P", Text: "no", Marks: []string{"b"}, Kids: list{text(""), text("a"), text("b"), {}}}
	for at, ahead := range map[int]list{0: nil, 2: {{}}, 8: {{}, odd}, 9: {{}, odd, text("c")}} {
		l := list{{}, odd, text("c")}
		checkSplit(t, l, at, ahead, l[len(ahead):])
	}
	for _, at := range []int{1, 3, 4, 5, 6, 7} {
		checkNoSplit(t, list{{}, odd, text("c")}, at, api.ErrSplit)
	}
}

// TestC1SplitSizeZero: nodes of the size 0 that stand where the position is are ahead of it.
func TestC1SplitSizeZero(t *testing.T) {
	a, e, f, p := text("a"), text(""), oddText("", "b"), of("p")
	for _, c := range []struct {
		l     list
		at    int
		ahead int
	}{
		{list{e}, 0, 1},
		{list{e, f, e}, 0, 3},
		{list{e, f, a, e}, 0, 2},
		{list{e, f, a, e}, 1, 4},
		{list{a, e, f}, 0, 0},
		{list{a, e, f}, 1, 3},
		{list{a, e, f, a, e}, 1, 3},
		{list{a, e, f, a, e}, 2, 5},
		{list{p, f, p, e, a}, 0, 0},
		{list{p, f, p, e, a}, 2, 2},
		{list{p, f, p, e, a}, 4, 4},
		{list{p, f, p, e, a}, 5, 5},
		{list{of("p", e), e, a}, 2, 2},
	} {
		checkSplit(t, c.l, c.at, c.l[:c.ahead], c.l[c.ahead:])
	}
	checkSplit(t, list{e, text("ab"), e}, 1, list{e, a}, list{text("b"), e})
}

func TestC1SplitWrong(t *testing.T) {
	l := parsedAll(t, `"hé"p["x"]q[]`)
	for _, at := range []int{-1, -2, 8, 9, math.MinInt, math.MaxInt} {
		checkNoSplit(t, l, at, api.ErrRange)
	}
	for _, at := range []int{3, 4, 6} {
		checkNoSplit(t, l, at, api.ErrSplit)
	}
	for _, l := range []list{nil, {}, {text("")}} {
		for _, at := range []int{-1, 1, math.MinInt, math.MaxInt} {
			checkNoSplit(t, l, at, api.ErrRange)
		}
	}
	checkNoSplit(t, list{text("a")}, -1, api.ErrRange)
	checkNoSplit(t, list{of("p", of("q"))}, 2, api.ErrSplit)
}

func TestC1Cut(t *testing.T) {
	const d = `doc(a="1")[p["hé""!"<b>]q[r["x"]]"yz"]`
	n := parsed(t, d)
	for _, c := range []struct {
		from, to int
		want     string
	}{
		{0, 0, ``},
		{0, 5, `p["hé""!"<b>]`},
		{0, 10, `p["hé""!"<b>]q[r["x"]]`},
		{0, 11, `p["hé""!"<b>]q[r["x"]]"y"`},
		{0, 12, `p["hé""!"<b>]q[r["x"]]"yz"`},
		{5, 12, `q[r["x"]]"yz"`},
		{10, 12, `"yz"`},
		{11, 12, `"z"`},
		{11, 11, ``},
		{12, 12, ``},
		{1, 1, ``},
		{1, 4, `"hé""!"<b>`},
		{1, 2, `"h"`},
		{2, 2, ``},
		{2, 3, `"é"`},
		{2, 4, `"é""!"<b>`},
		{3, 4, `"!"<b>`},
		{6, 6, ``},
		{6, 9, `r["x"]`},
		{7, 8, `"x"`},
		{8, 8, ``},
	} {
		l, e := piece.Cut(n, c.from, c.to)
		if e != api.OK || !same(l, parsedAll(t, c.want)) {
			t.Errorf("%d to %d: %q, %d", c.from, c.to, l, e)
		}
	}
	if l, e := piece.Cut(parsed(t, `doc[]`), 0, 0); e != api.OK || len(l) != 0 {
		t.Error(l, e)
	}
	if l, e := piece.Cut(parsed(t, `doc["abcd"<b>]`), 1, 3); e != api.OK || !same(l, list{text("bc", "b")}) {
		t.Error(l, e)
	}
}

// wrongPlaces are pairs of positions of `doc[p["hé"]q[r[]]"y"]`, with what is wrong with them.
func wrongPlaces() []struct {
	from, to int
	want     api.Errno
} {
	return []struct {
		from, to int
		want     api.Errno
	}{
		{-1, 0, api.ErrRange},
		{0, -1, api.ErrRange},
		{-2, -1, api.ErrRange},
		{0, 10, api.ErrRange},
		{1, 10, api.ErrRange},
		{10, 10, api.ErrRange},
		{10, 0, api.ErrRange},
		{math.MinInt, math.MaxInt, api.ErrRange},
		{math.MinInt, math.MinInt, api.ErrRange},
		{math.MaxInt, math.MaxInt, api.ErrRange},
		{3, 2, api.ErrRange},
		{9, 0, api.ErrRange},
		{5, 1, api.ErrRange},
		{6, 5, api.ErrRange},
		{0, 1, api.ErrSplit},
		{0, 2, api.ErrSplit},
		{3, 4, api.ErrSplit},
		{2, 5, api.ErrSplit},
		{2, 9, api.ErrSplit},
		{1, 5, api.ErrSplit},
		{5, 6, api.ErrSplit},
		{6, 8, api.ErrSplit},
		{0, 6, api.ErrSplit},
		{6, 9, api.ErrSplit},
	}
}

func TestC1CutWrong(t *testing.T) {
	n := parsed(t, `doc[p["hé"]q[r[]]"y"]`)
	for _, c := range wrongPlaces() {
		if l, e := piece.Cut(n, c.from, c.to); e != c.want || len(l) != 0 {
			t.Errorf("%d to %d: %q, %d, not %d", c.from, c.to, l, e, c.want)
		}
	}
}

// wrongDocuments are ones that are not right, and texts.
func wrongDocuments() []api.Node {
	return []api.Node{
		{},
		text("ab"),
		text("a", "b"),
		text(""),
		oddText("ab"),
		of("P", text("ab")),
		of("doc", text("a"), text("b")),
		of("doc", text("")),
		of("doc", text("\xff\xff")),
		of("doc", text("ab", "i", "b")),
		of("doc", oddText("ab")),
		of("doc", of("p", of("Q"))),
		{Kind: "doc", Text: "ab", Kids: list{text("ab")}},
		{Kind: "doc", Marks: []string{"b"}, Kids: list{text("ab")}},
		nest(of("p"), 40),
		of("doc", text(strings.Repeat("a", 3999))),
	}
}

// TestC1CutForm: a document that is not right is told ahead of positions that are wrong.
func TestC1CutForm(t *testing.T) {
	for i, n := range wrongDocuments() {
		for _, c := range [][2]int{{0, 0}, {0, 1}, {1, 0}, {-1, 9}, {0, math.MaxInt}} {
			if l, e := piece.Cut(n, c[0], c[1]); e != api.ErrForm || len(l) != 0 {
				t.Errorf("%d: %v: %d nodes, %d", i, c, len(l), e)
			}
		}
	}
}

// TestC1CutLimits: as deep, and as large, as a document may be.
func TestC1CutLimits(t *testing.T) {
	if l, e := piece.Cut(nest(text("abc"), 40), 40, 41); e != api.OK || !same(l, list{text("b")}) {
		t.Error(l, e)
	}
	if l, e := piece.Cut(nest(of("p"), 39), 0, 78); e != api.OK || !same(l, list{nest(of("p"), 38)}) {
		t.Error(l, e)
	}
	large := strings.Repeat("é", 3998)
	if l, e := piece.Cut(of("doc", text(large)), 1, 3998); e != api.OK || !same(l, list{text(large[2:])}) {
		t.Error(len(l), e)
	}
}

func checkPut(t *testing.T, n api.Node, from, to int, l list, want api.Node) {
	t.Helper()
	if m, e := piece.Put(n, from, to, l); e != api.OK || !node.Same(m, want) {
		t.Errorf("%q, %d to %d, %q: %q, %d", n, from, to, l, m, e)
	}
}

func checkNoPut(t *testing.T, n api.Node, from, to int, l list, want api.Errno) {
	t.Helper()
	if m, e := piece.Put(n, from, to, l); e != want || !none(m) {
		t.Errorf("%.200q, %d to %d, %.200q: %d, not %d", n, from, to, l, e, want)
	}
}

func TestC2Put(t *testing.T) {
	const d = `doc(a="1")[p["hi"]q(b="2")[r[]"y"<b>]]`
	for _, c := range []struct {
		from, to int
		in, want string
	}{
		{2, 2, `"x"`, `doc(a="1")[p["hxi"]q(b="2")[r[]"y"<b>]]`},
		{2, 2, ``, d},
		{2, 2, `"x"<b>`, `doc(a="1")[p["h""x"<b>"i"]q(b="2")[r[]"y"<b>]]`},
		{2, 2, `z[]`, `doc(a="1")[p["h"z[]"i"]q(b="2")[r[]"y"<b>]]`},
		{2, 2, `"x"z[]"y"`, `doc(a="1")[p["hx"z[]"yi"]q(b="2")[r[]"y"<b>]]`},
		{1, 1, `"x"`, `doc(a="1")[p["xhi"]q(b="2")[r[]"y"<b>]]`},
		{3, 3, `"x"`, `doc(a="1")[p["hix"]q(b="2")[r[]"y"<b>]]`},
		{1, 3, ``, `doc(a="1")[p[]q(b="2")[r[]"y"<b>]]`},
		{1, 3, `"x"`, `doc(a="1")[p["x"]q(b="2")[r[]"y"<b>]]`},
		{2, 3, `"x"`, `doc(a="1")[p["hx"]q(b="2")[r[]"y"<b>]]`},
		{0, 0, `"x"`, `doc(a="1")["x"p["hi"]q(b="2")[r[]"y"<b>]]`},
		{4, 4, `"x"`, `doc(a="1")[p["hi"]"x"q(b="2")[r[]"y"<b>]]`},
		{9, 9, `"x"`, `doc(a="1")[p["hi"]q(b="2")[r[]"y"<b>]"x"]`},
		{0, 9, ``, `doc(a="1")[]`},
		{0, 4, `z["a"]"b"`, `doc(a="1")[z["a"]"b"q(b="2")[r[]"y"<b>]]`},
		{6, 6, `s["x"]`, `doc(a="1")[p["hi"]q(b="2")[r[s["x"]]"y"<b>]]`},
		{5, 7, `"x"<b>`, `doc(a="1")[p["hi"]q(b="2")["xy"<b>]]`},
		{5, 7, `"x"`, `doc(a="1")[p["hi"]q(b="2")["x""y"<b>]]`},
		{7, 8, `"y"`, `doc(a="1")[p["hi"]q(b="2")[r[]"y"]]`},
	} {
		checkPut(t, parsed(t, d), c.from, c.to, parsedAll(t, c.in), parsed(t, c.want))
	}
	checkPut(t, of("doc"), 0, 0, nil, of("doc"))
	checkPut(t, of("doc"), 0, 0, list{text("a")}, of("doc", text("a")))
	checkPut(t, parsed(t, `doc["a""b"<b>"a"]`), 1, 2, nil, parsed(t, `doc["aa"]`))
	checkPut(t, parsed(t, `doc["a"p[]"b"]`), 1, 3, nil, parsed(t, `doc["ab"]`))
	checkPut(t, parsed(t, `doc["abcd"]`), 1, 3, nil, parsed(t, `doc["ad"]`))
}

// TestC2PutJoins: what is put in need not be joined; it is looked at, and put in, as if it were.
func TestC2PutJoins(t *testing.T) {
	n := of("doc", of("p", text("hi")))
	for _, c := range []struct{ l, want list }{
		{list{text("")}, list{text("hi")}},
		{list{text(""), text("a"), text("b"), text("", "b")}, list{text("habi")}},
		{list{text("a", "b"), text("", "i"), text("b", "b")}, list{text("h"), text("ab", "b"), text("i")}},
		{list{oddText("")}, list{text("hi")}},
		{list{oddText("a"), text("b")}, list{text("habi")}},
		{list{of("q"), oddText("a", "b"), text("b", "b")}, list{text("h"), of("q"), text("ab", "b"), text("i")}},
		{list{text("", "B", "a")}, list{text("hi")}},
		{list{text("\xc3"), text("\xa9")}, list{text("héi")}},
	} {
		checkPut(t, n, 2, 2, c.l, of("doc", of("p", c.want...)))
	}
}

func TestC2PutWrong(t *testing.T) {
	n := parsed(t, `doc[p["hé"]q[r[]]"y"]`)
	for _, c := range wrongPlaces() {
		checkNoPut(t, n, c.from, c.to, list{text("x")}, c.want)
		checkNoPut(t, n, c.from, c.to, nil, c.want)
	}
}

// wrongKids are nodes that, joined, are no kids of a node that is well formed.
func wrongKids() []list {
	return []list{
		{{}},
		{of("P")},
		{of("abcdefghi")},
		{text("\xff")},
		{text("\xc3"), of("p"), text("\xa9")},
		{text("\xc3"), text("\xa9", "b")},
		{text("a", "i", "b")},
		{text("a", "b", "b")},
		{text("a", "text")},
		{oddText("a")},
		{text("a"), oddText("b")},
		{text("a"), oddText("b"), text("")},
		{oddText("a"), text("b", "b")},
		{of("p"), of("q", of("r"), text(""))},
		{of("p", text("a"), text("b"))},
		{of("p", text(""))},
		{{Kind: "p", Text: "x"}},
		{{Kind: "p", Marks: []string{"b"}}},
		{{Kind: "p", Attrs: []api.Attr{{Name: "b"}, {Name: "a"}}}},
		{{Kind: "p", Attrs: []api.Attr{{Name: "a", Value: strings.Repeat("x", 41)}}}},
		{nest(of("P"), 50)},
		{text(strings.Repeat("a", 4001)), of("P")},
	}
}

// TestC2PutForm: what is wrong with a document, or with what is put in, is told ahead of positions that are wrong, and of limits.
func TestC2PutForm(t *testing.T) {
	places := [][2]int{{0, 0}, {0, 1}, {1, 0}, {-1, 9}, {0, math.MaxInt}}
	for _, p := range places {
		for _, n := range wrongDocuments() {
			checkNoPut(t, n, p[0], p[1], nil, api.ErrForm)
			checkNoPut(t, n, p[0], p[1], list{text("x")}, api.ErrForm)
			checkNoPut(t, n, p[0], p[1], list{nest(of("p"), 50)}, api.ErrForm)
		}
		for _, l := range wrongKids() {
			checkNoPut(t, of("doc", of("p", text("hi"))), p[0], p[1], l, api.ErrForm)
		}
	}
}

func TestC2PutLimits(t *testing.T) {
	flat := of("doc", of("p", text("hi")))
	checkPut(t, flat, 2, 2, list{nest(of("p"), 37)}, of("doc", of("p", text("h"), nest(of("p"), 37), text("i"))))
	checkNoPut(t, flat, 2, 2, list{nest(of("p"), 38)}, api.ErrDeep)
	checkNoPut(t, flat, 0, 0, list{nest(of("p"), 39)}, api.ErrDeep)
	checkPut(t, nest(of("p"), 39), 39, 39, list{text("a")}, nest(of("p", text("a")), 39))
	checkNoPut(t, nest(of("p"), 39), 39, 39, list{of("p")}, api.ErrDeep)
	checkPut(t, nest(of("p"), 39), 0, 78, list{nest(of("q"), 38)}, of("p", nest(of("q"), 38)))

	some := func(n int) string { return strings.Repeat("é", n) }
	checkPut(t, flat, 2, 2, list{text(some(3994), "b")}, of("doc", of("p", text("h"), text(some(3994), "b"), text("i"))))
	checkNoPut(t, flat, 2, 2, list{text(some(3995), "b")}, api.ErrLarge)
	checkNoPut(t, flat, 2, 2, list{text(some(3995))}, api.ErrLarge)
	checkPut(t, of("doc", text(some(3998))), 0, 3998, list{text(some(3998), "b")}, of("doc", text(some(3998), "b")))
	checkPut(t, of("doc", text(some(3998))), 7, 8, list{text("é")}, of("doc", text(some(3998))))
	checkNoPut(t, of("doc", text(some(3998))), 7, 7, list{text("é")}, api.ErrLarge)
	checkNoPut(t, flat, 2, 2, list{text(some(4000)), nest(of("p"), 50)}, api.ErrDeep)
}

// TestC2PutAnySize: what is put in may be deeper, and larger, than any document; that is told behind positions that are wrong.
func TestC2PutAnySize(t *testing.T) {
	n := of("doc", of("p", text("hi")))
	for _, c := range []struct {
		in   api.Node
		want api.Errno
	}{
		{nest(of("p"), 40), api.ErrDeep},
		{nest(of("p"), 41), api.ErrDeep},
		{text(strings.Repeat("a", 4001)), api.ErrLarge},
	} {
		checkNoPut(t, n, 2, 2, list{c.in}, c.want)
		checkNoPut(t, n, 0, 4, list{c.in}, c.want)
		for _, p := range [][2]int{{0, 5}, {-1, 0}, {2, 1}} {
			checkNoPut(t, n, p[0], p[1], list{c.in}, api.ErrRange)
		}
		checkNoPut(t, n, 0, 1, list{c.in}, api.ErrSplit)
	}
}
