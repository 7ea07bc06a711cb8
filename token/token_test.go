package token_test

import (
	"slices"
	"strings"
	"testing"

	"diptych/api"
	"diptych/codec"
	"diptych/node"
	"diptych/token"
)

func text(s string, marks ...string) api.Node {
	return api.Node{Kind: api.TextKind, Text: s, Marks: marks}
}

func of(kind string, kids ...api.Node) api.Node { return api.Node{Kind: kind, Kids: kids} }

func attr(name, value string) api.Attr { return api.Attr{Name: name, Value: value} }

func with(kind string, attrs ...api.Attr) api.Node { return api.Node{Kind: kind, Attrs: attrs} }

func opened(head string) token.Token { return token.Token{Kind: token.Open, Head: head} }

func sign(s, head string) token.Token { return token.Token{Kind: token.Sign, Text: s, Head: head} }

var closed = token.Token{Kind: token.Close}

type tokens = []token.Token

// row is what a list of nodes is as tokens.
type row struct {
	nodes  []api.Node
	tokens tokens
}

// rightRows are of nodes that are right together.
func rightRows() []row {
	return []row{
		{nil, nil},
		{[]api.Node{of("para", text("hi"))}, tokens{opened("para"), sign("h", ""), sign("i", ""), closed}},
		{[]api.Node{text("a")}, tokens{sign("a", "")}},
		{[]api.Node{text("hé", "b")}, tokens{sign("h", "<b>"), sign("é", "<b>")}},
		{[]api.Node{text("日😀", "b", "i")}, tokens{sign("日", "<b,i>"), sign("😀", "<b,i>")}},
		{[]api.Node{text("e\u0301")}, tokens{sign("e", ""), sign("\u0301", "")}},
		{[]api.Node{text("\ufffd\x00\n")}, tokens{sign("\ufffd", ""), sign("\x00", ""), sign("\n", "")}},
		{[]api.Node{text(`"\`, "b")}, tokens{sign(`"`, "<b>"), sign(`\`, "<b>")}},
		{[]api.Node{text("aa"), text("a", "b"), text("a")}, tokens{sign("a", ""), sign("a", ""), sign("a", "<b>"), sign("a", "")}},
		{[]api.Node{of("p")}, tokens{opened("p"), closed}},
		{[]api.Node{of("p"), of("p")}, tokens{opened("p"), closed, opened("p"), closed}},
		{[]api.Node{of("p", of("p"))}, tokens{opened("p"), opened("p"), closed, closed}},
		{[]api.Node{with("abcdefgh", attr("a", "1"), attr("b", `"] \`))}, tokens{opened(`abcdefgh(a="1" b="\"] \\")`), closed}},
		{
			[]api.Node{of("p", text("a"), with("q", attr("a", "1"))), text("z")},
			tokens{opened("p"), sign("a", ""), opened(`q(a="1")`), closed, closed, sign("z", "")},
		},
		{
			[]api.Node{text("a"), of("p", text("b"), of("q", text("c")), text("d")), text("e"), of("p")},
			tokens{sign("a", ""), opened("p"), sign("b", ""), opened("q"), sign("c", ""), closed, sign("d", ""), closed, sign("e", ""), opened("p"), closed},
		},
	}
}

// oddRows are of nodes that are not right together: they have tokens all the same.
func oddRows() []row {
	return []row{
		{[]api.Node{text("")}, nil},
		{[]api.Node{text("", "b"), text("a"), text("b")}, tokens{sign("a", ""), sign("b", "")}},
		{[]api.Node{{}}, tokens{opened(""), closed}},
		{[]api.Node{of("P q", text("x"))}, tokens{opened("P q"), sign("x", ""), closed}},
		{[]api.Node{text("a", "i", "", "b")}, tokens{sign("a", "<i,,b>")}},
		{[]api.Node{with("p", attr("B", `"`), attr("", "\xff"))}, tokens{opened("p(B=\"\\\"\" =\"\xff\")"), closed}},
		{[]api.Node{{Kind: "p", Text: "no", Marks: []string{"b"}, Kids: []api.Node{text("x")}}}, tokens{opened("p"), sign("x", ""), closed}},
		{[]api.Node{{Kind: "text", Text: "yes", Attrs: []api.Attr{attr("a", "1")}, Kids: []api.Node{of("p")}}}, tokens{sign("y", ""), sign("e", ""), sign("s", "")}},
		{[]api.Node{text("a\xff\xe6\x97é")}, tokens{sign("a", ""), sign("\ufffd", ""), sign("\ufffd", ""), sign("\ufffd", ""), sign("é", "")}},
	}
}

func TestK1Of(t *testing.T) {
	if token.Open != 'o' || token.Close != 'c' || token.Sign != 't' {
		t.Error(token.Open, token.Close, token.Sign)
	}
	for i, r := range append(rightRows(), oddRows()...) {
		if got := token.Of(r.nodes); !slices.Equal(got, r.tokens) {
			t.Errorf("%d: %q, not %q", i, got, r.tokens)
		}
	}
}

func TestK1Build(t *testing.T) {
	for i, r := range rightRows() {
		if l, e := token.Build(r.tokens); e != api.OK || !node.Same(of("x", l...), of("x", r.nodes...)) {
			t.Errorf("%d: %q, %d", i, l, e)
		}
	}
}

// refused tells whether Build answers just that error.
func refused(l tokens, want api.Errno) bool {
	n, e := token.Build(l)
	return e == want && len(n) == 0
}

// wrongTokens are tokens that no right nodes have.
func wrongTokens() tokens {
	wrong := tokens{
		{}, {Kind: 'x'}, {Kind: 'O', Head: "p"}, {Kind: 'x', Text: "a"}, {Text: "a"}, {Head: "p"},
		{Kind: token.Close, Text: "a"}, {Kind: token.Close, Head: "p"}, {Kind: token.Close, Head: "]"},
		{Kind: token.Open, Head: "p", Text: "a"}, {Kind: token.Open, Text: "p"},
	}
	for _, s := range []string{
		"", "ab", "éé", "a\u0301", "\xff", "a\xff", "\xc3", "é\xa9", "\xed\xa0\x80", strings.Repeat("a", 5000),
	} {
		wrong = append(wrong, sign(s, ""), sign(s, "<b>"))
	}
	for _, s := range []string{
		"b", " ", "<", "<>", "<b", "b>", "<b>>", "<<b>", "<b,>", "<,b>", "<b,b>", "<i,b>", "<b i>", "<b, i>", "<B>", "<text>", "<abcdefghi>", "<b>\n", "<b><b>",
		`"b"`, `""`, "p[]", "[]", "[", "]", "<b>p[]", `<b>"c"`, `"`, `\`, "(a=\"1\")", "<" + strings.Repeat("b,", 5000) + "b>", strings.Repeat("p[", 50) + strings.Repeat("]", 50),
	} {
		wrong = append(wrong, sign("a", s))
	}
	for _, s := range []string{
		"", "P", "text", "abcdefghi", "p ", " p", "p[", "p]", "p[]", "[]", "[", "]", "p[]q", `p["a"]q`, `"a"q`, `"a"`, `p"a"`, "p[q", "p[q]r", "p]q[r", "]p", "p<b>", "<b>", "é", "\xff", "p()", "p(", "p)",
		`p(a="1"`, `p(a=1)`, `p(a="1",b="2")`, `p(b="1" a="2")`, `p(a="1" a="2")`, `p(a="1"  b="2")`, `p( a="1")`, `p(a="1" )`, `p (a="1")`, `p(a="1")p`, `p(A="1")`, `p(text="1")`, `p(a="\a")`, `p(a="1")[]q`, `p(a="1")(b="2")`,
		"p(a=\"\xff\")", `p(a="` + strings.Repeat("x", 41) + `")`, `p(a="`, `p(a=")[]`, strings.Repeat("p[", 50) + strings.Repeat("]", 50) + "q",
	} {
		wrong = append(wrong, opened(s))
	}
	return wrong
}

// TestK1BuildRefusesTokens puts each wrong token where a right one may stand, also into what is too deep, or too large.
func TestK1BuildRefusesTokens(t *testing.T) {
	deep := append(slices.Repeat(tokens{opened("p")}, 50), slices.Repeat(tokens{closed}, 50)...)
	large := slices.Repeat(tokens{sign("z", "")}, 5000)
	for i, wrong := range wrongTokens() {
		for j, l := range []tokens{
			{wrong}, {wrong, closed}, {opened("p"), wrong, closed}, {opened("p"), wrong, closed, closed}, {opened("p"), wrong},
			{sign("z", ""), wrong}, {sign("z", "<b>"), wrong}, {wrong, sign("z", "")}, {sign("z", ""), wrong, sign("z", "")}, {wrong, sign("z", "<b>")}, {wrong, closed, sign("z", wrong.Head)}, {sign("z", wrong.Head), wrong},
			slices.Concat(deep, tokens{wrong, closed}), slices.Concat(deep, tokens{wrong}), slices.Concat(deep[:50], tokens{wrong}, deep[50:]), slices.Concat(tokens{wrong, closed}, deep),
			slices.Concat(large, tokens{wrong, closed}), slices.Concat(large, tokens{wrong}), slices.Concat(tokens{wrong}, large), slices.Concat(tokens{wrong, closed}, large),
		} {
			if !refused(l, api.ErrForm) {
				n, e := token.Build(l)
				t.Errorf("%d, %d: %.200q, %d", i, j, n, e)
			}
		}
	}
}

func TestK1BuildRefusesRows(t *testing.T) {
	o, c, a := opened("p"), closed, sign("a", "")
	deep := append(slices.Repeat(tokens{o}, 50), slices.Repeat(tokens{c}, 50)...)
	large := slices.Repeat(tokens{a}, 5000)
	for i, l := range []tokens{
		{o}, {c}, {c, o}, {o, o, c}, {o, c, c}, {o, c, o}, {c, o, c}, {a, c}, {o, a}, {o, a, c, c}, {a, o}, {c, a},
		{sign("\xc3", ""), sign("\xa9", "")}, {a, sign("\xc3", ""), sign("\xa9", "")},
		deep[1:], deep[:99], slices.Concat(deep, tokens{c}), slices.Concat(deep, tokens{o}), slices.Concat(large, tokens{o}), slices.Concat(large, tokens{c}), slices.Concat(tokens{o}, large),
	} {
		if !refused(l, api.ErrForm) {
			n, e := token.Build(l)
			t.Errorf("%d: %.200q, %d", i, n, e)
		}
	}
}

// nested is tokens in as many nodes.
func nested(l tokens, times int) tokens {
	return slices.Concat(slices.Repeat(tokens{opened("p")}, times), l, slices.Repeat(tokens{closed}, times))
}

// TestK1BuildLimits: nodes are judged by the node that they are the kids of: it takes one of the depth, and two of the size.
func TestK1BuildLimits(t *testing.T) {
	a := tokens{sign("a", "<b>")}
	many := slices.Repeat(a, 3998)
	pairs := slices.Repeat(tokens{opened("p"), closed}, 1999)
	for i, c := range []struct {
		l    tokens
		want api.Errno
	}{
		{nested(nil, 39), api.OK},
		{nested(a, 39), api.OK},
		{nested(nil, 40), api.ErrDeep},
		{nested(a, 40), api.ErrDeep},
		{nested(a, 41), api.ErrDeep},
		{slices.Concat(a, nested(nil, 40)), api.ErrDeep},
		{nested(tokens{opened("q"), closed, opened("q"), closed}, 39), api.ErrDeep},
		{many, api.OK},
		{slices.Concat(many, a), api.ErrLarge},
		{slices.Concat(many, tokens{opened("p"), closed}), api.ErrLarge},
		{pairs, api.OK},
		{slices.Concat(pairs, a), api.ErrLarge},
		{nested(many[:3998-78], 39), api.OK},
		{nested(many[:3998-77], 39), api.ErrLarge},
		{nested(many, 40), api.ErrDeep},
		{slices.Concat(many, a, nested(nil, 40)), api.ErrDeep},
		{slices.Concat(nested(nil, 40), many), api.ErrDeep},
		{slices.Repeat(tokens{sign("é", "")}, 3998), api.OK},
		{slices.Repeat(tokens{sign("é", "")}, 3999), api.ErrLarge},
	} {
		n, e := token.Build(c.l)
		if e != c.want || e != api.OK && len(n) != 0 {
			t.Errorf("%d: %d, not %d", i, e, c.want)
		}
		if e == api.OK && !slices.Equal(token.Of(n), c.l) {
			t.Errorf("%d: other nodes", i)
		}
	}
}

func parsed(t *testing.T, s string) tokens {
	t.Helper()
	l, e := codec.ParseAll(s)
	if e != api.OK {
		t.Fatal(s, e)
	}
	return token.Of(l)
}

func TestK2SameBack(t *testing.T) {
	for i, c := range []struct {
		a, b       string
		same, back int
	}{
		{``, ``, 0, 0},
		{``, `"a"`, 0, 0},
		{`"a"`, `"b"`, 0, 0},
		{`"abc"`, `"abc"`, 3, 0},
		{`"abc"`, `"axc"`, 1, 1},
		{`"abc"`, `"ac"`, 1, 1},
		{`"aa"`, `"aaa"`, 2, 0},
		{`"aba"`, `"ababa"`, 3, 0},
		{`"xaba"`, `"ababa"`, 0, 3},
		{`"abcab"`, `"ab"`, 2, 0},
		{`"abab"`, `"aab"`, 1, 2},
		{`"bc"`, `"abc"`, 0, 2},
		{`p["a"]`, `p["b"]`, 1, 1},
		{`p["a"]`, `q["a"]`, 0, 2},
		{`p(a="1")["a"]`, `p(a="2")["a"]`, 0, 2},
		{`"ab"`, `"a""b"<b>`, 1, 0},
		{`"ab"<b>`, `"a""b"<b>`, 0, 1},
		{`p[]q[]`, `q[]`, 0, 2},
		{`p[]`, `"p"`, 0, 0},
		{`p[q[]]`, `p[]`, 1, 1},
		{`p["é"]`, `p["e"]`, 1, 1},
	} {
		a, b := parsed(t, c.a), parsed(t, c.b)
		if token.Same(a, b) != c.same || token.Back(a, b) != c.back || token.Same(b, a) != c.same || token.Back(b, a) != c.back {
			t.Errorf("%d: %d, %d, and the other way round %d, %d", i, token.Same(a, b), token.Back(a, b), token.Same(b, a), token.Back(b, a))
		}
	}
}

// TestK2EachFieldCounts: tokens are alike just if all of them is, right or not.
func TestK2EachFieldCounts(t *testing.T) {
	x := token.Token{Kind: 'x', Text: "a", Head: "h"}
	for _, y := range (tokens{{Kind: 'y', Text: "a", Head: "h"}, {Kind: 'x', Text: "b", Head: "h"}, {Kind: 'x', Text: "a", Head: "g"}, {Kind: 'x', Text: "ah"}, {}}) {
		if token.Same(tokens{x}, tokens{y}) != 0 || token.Back(tokens{x}, tokens{y}) != 0 {
			t.Error(y)
		}
		if token.Same(tokens{x, y}, tokens{x}) != 1 || token.Back(tokens{y, x}, tokens{x}) != 1 || token.Same(tokens{y}, tokens{y}) != 1 {
			t.Error(y)
		}
	}
}
