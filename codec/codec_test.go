package codec_test

import (
	"strings"
	"testing"

	"diptych/api"
	"diptych/codec"
	"diptych/node"
)

func text(s string, marks ...string) api.Node {
	return api.Node{Kind: api.TextKind, Text: s, Marks: marks}
}

func of(kind string, kids ...api.Node) api.Node { return api.Node{Kind: kind, Kids: kids} }

func attr(name, value string) api.Attr { return api.Attr{Name: name, Value: value} }

func with(kind string, attrs ...api.Attr) api.Node { return api.Node{Kind: kind, Attrs: attrs} }

func nest(n api.Node, times int) api.Node {
	for range times {
		n = of("p", n)
	}
	return n
}

// nested is how nest's node is written.
func nested(s string, times int) string {
	return strings.Repeat("p[", times) + s + strings.Repeat("]", times)
}

// pair is a well formed node, and how it is written.
type pair struct {
	n api.Node
	s string
}

func pairs() []pair {
	forty := strings.Repeat(`"`, 40)
	return []pair{
		{of("doc", api.Node{Kind: "para", Attrs: []api.Attr{attr("align", "left")}, Kids: []api.Node{text("hi"), text("!", "b")}}), `doc[para(align="left")["hi""!"<b>]]`},
		{of("p"), "p[]"},
		{of("abcdefgh"), "abcdefgh[]"},
		{of("p", of("q"), of("p", of("q")), of("q")), "p[q[]p[q[]]q[]]"},
		{text("a"), `"a"`},
		{text(`"`), `"\""`},
		{text(`\`), `"\\"`},
		{text(`\"`), `"\\\""`},
		{text(`"\`), `"\"\\"`},
		{text(`a"b\c`), `"a\"b\\c"`},
		{text("p[]"), `"p[]"`},
		{text("text"), `"text"`},
		{text(" \n\t\x00\r"), "\" \n\t\x00\r\""},
		{text("é😀\ufffd"), "\"é😀\ufffd\""},
		{text("a", "b"), `"a"<b>`},
		{text("<b>", "b", "ba", "c"), `"<b>"<b,ba,c>`},
		{text("x", "abcdefgh", "z"), `"x"<abcdefgh,z>`},
		{of("p", text("a"), text("a", "b"), text("a", "b", "i"), text("a", "i"), text("a")), `p["a""a"<b>"a"<b,i>"a"<i>"a"]`},
		{of("p", text("a"), of("q"), text("b")), `p["a"q[]"b"]`},
		{with("p", attr("a", "")), `p(a="")[]`},
		{with("p", attr("a", "1"), attr("b", "2"), attr("bb", ` )=`)), `p(a="1" b="2" bb=" )=")[]`},
		{with("p", attr("abcdefgh", `"\`)), `p(abcdefgh="\"\\")[]`},
		{with("p", attr("a", forty)), `p(a="` + strings.Repeat(`\"`, 40) + `")[]`},
		{with("p", attr("p", "\n\x00é")), "p(p=\"\n\x00é\")[]"},
		{api.Node{Kind: "p", Attrs: []api.Attr{attr("k", "v")}, Kids: []api.Node{with("q", attr("l", "w")), text("z", "m")}}, `p(k="v")[q(l="w")[]"z"<m>]`},
		{nest(text("a"), 40), nested(`"a"`, 40)},
		{text(strings.Repeat("é", 4000)), `"` + strings.Repeat("é", 4000) + `"`},
		{of("p", text(strings.Repeat(`\`, 3998))), `p["` + strings.Repeat(`\\`, 3998) + `"]`},
	}
}

func TestC1Quote(t *testing.T) {
	for s, want := range map[string]string{
		"": `""`, "a": `"a"`, `"`: `"\""`, `\`: `"\\"`, `\\`: `"\\\\"`, `""`: `"\"\""`, `a"b\c`: `"a\"b\\c"`,
		"\n\t\x00'`": "\"\n\t\x00'`\"", "é😀": `"é😀"`, "\xff\"\xc3\\": "\"\xff\\\"\xc3\\\\\"", "\xc3\xa9": `"é"`, "<>[]()=, ": `"<>[]()=, "`,
	} {
		if got := codec.Quote(s); got != want {
			t.Errorf("Quote(%q) is %q, not %q", s, got, want)
		}
	}
}

func TestC1Head(t *testing.T) {
	for i, c := range []pair{
		{text("a"), ""},
		{text("", "b"), "<b>"},
		{text("a", "b", "i", "u"), "<b,i,u>"},
		{of("p"), "p"},
		{of("p", text("a", "b"), of("q")), "p"},
		{with("p", attr("a", "1")), `p(a="1")`},
		{with("p", attr("a", `"`), attr("b", `\`), attr("c", "")), `p(a="\"" b="\\" c="")`},
		// Nodes that are not well formed have a head too, whatever they say.
		{api.Node{}, ""},
		{of("No Name["), "No Name["},
		{with("", attr("", "")), `(="")`},
		{with("p", attr("b", "\xff"), attr("b", strings.Repeat("x", 41)), attr("A =", "1")), "p(b=\"\xff\" b=\"" + strings.Repeat("x", 41) + `" A =="1")`},
		{text("\xff", "i", "b", "b", "", ">"), "<i,b,b,,>>"},
		{text("", ""), "<>"},
		{api.Node{Kind: "p", Text: "t", Marks: []string{"b"}, Attrs: []api.Attr{attr("a", "1")}}, `p(a="1")`},
		{api.Node{Kind: "text", Marks: []string{"b"}, Attrs: []api.Attr{attr("a", "1")}, Kids: []api.Node{of("p")}}, "<b>"},
		{api.Node{Kind: "p", Marks: []string{}, Attrs: []api.Attr{}}, "p"},
		{api.Node{Kind: "text", Marks: []string{}}, ""},
		{nest(of("q"), 1000), "p"},
	} {
		if got := codec.Head(c.n); got != c.s {
			t.Errorf("%d: Head is %q, not %q", i, got, c.s)
		}
	}
}

func TestC1Print(t *testing.T) {
	for i, c := range pairs() {
		if s, e := codec.Print(c.n); s != c.s || e != api.OK {
			t.Errorf("%d: Print is %.200q, %d, not %.200q", i, s, e, c.s)
		}
		if s, e := codec.PrintAll([]api.Node{c.n}); node.Size(c.n) <= 3998 && node.Depth(c.n) <= 39 && (s != c.s || e != api.OK) {
			t.Errorf("%d: PrintAll is %.200q, %d, not %.200q", i, s, e, c.s)
		}
	}
}

func TestC1PrintTellsCheck(t *testing.T) {
	large := strings.Repeat("é", 4001)
	for i, c := range []struct {
		n api.Node
		e api.Errno
	}{
		{api.Node{}, api.ErrForm},
		{text(""), api.ErrForm},
		{text("\xff"), api.ErrForm},
		{text("a", "i", "b"), api.ErrForm},
		{of("P"), api.ErrForm},
		{of("text", of("p")), api.ErrForm},
		{with("p", attr("b", ""), attr("a", "")), api.ErrForm},
		{with("p", attr("a", strings.Repeat("x", 41))), api.ErrForm},
		{of("p", text("a"), text("b")), api.ErrForm},
		{nest(of("P"), 50), api.ErrForm},
		{nest(of("p", text(large), text("b")), 50), api.ErrForm},
		{of("p", text(large), of("")), api.ErrForm},
		{nest(of("p"), 40), api.ErrDeep},
		{nest(text("a"), 41), api.ErrDeep},
		{nest(text(large), 41), api.ErrDeep},
		{text(large), api.ErrLarge},
		{of("p", text(large[2:])), api.ErrLarge},
		{nest(text(large), 39), api.ErrLarge},
	} {
		if s, e := codec.Print(c.n); s != "" || e != c.e || e != node.Check(c.n) {
			t.Errorf("%d: Print is %.200q, %d, not %d", i, s, e, c.e)
		}
		if s, e := codec.PrintAll([]api.Node{of("q"), c.n}); s != "" || e != c.e {
			t.Errorf("%d: PrintAll is %.200q, %d, not %d", i, s, e, c.e)
		}
	}
}

// lists are some, how they are written, and what is told of them in a node x.
func lists() []struct {
	l []api.Node
	s string
	e api.Errno
} {
	large := strings.Repeat("a", 3998)
	return []struct {
		l []api.Node
		s string
		e api.Errno
	}{
		{nil, "", api.OK},
		{[]api.Node{}, "", api.OK},
		{[]api.Node{text("a")}, `"a"`, api.OK},
		{[]api.Node{of("p"), of("p")}, "p[]p[]", api.OK},
		{[]api.Node{text("a"), of("p", text("b", "b")), text("c")}, `"a"p["b"<b>]"c"`, api.OK},
		{[]api.Node{text("a"), text("a", "b")}, `"a""a"<b>`, api.OK},
		{[]api.Node{text("a"), text("b")}, `"a""b"`, api.ErrForm},
		{[]api.Node{text("a", "i"), text("b", "i")}, `"a"<i>"b"<i>`, api.ErrForm},
		{[]api.Node{of("x"), of("p", text("a"), text("b"))}, `x[]p["a""b"]`, api.ErrForm},
		{[]api.Node{of("p"), text("")}, `p[]""`, api.ErrForm},
		{[]api.Node{nest(text("a"), 39)}, nested(`"a"`, 39), api.OK},
		{[]api.Node{of("q"), nest(text("a"), 40)}, "q[]" + nested(`"a"`, 40), api.ErrDeep},
		{[]api.Node{nest(text("a"), 40), text("b", "b", "b")}, nested(`"a"`, 40) + `"b"<b,b>`, api.ErrForm},
		{[]api.Node{text(large)}, `"` + large + `"`, api.OK},
		{[]api.Node{text(large), text("b", "b")}, `"` + large + `""b"<b>`, api.ErrLarge},
		{[]api.Node{text(large + "a")}, `"` + large + `a"`, api.ErrLarge},
		{[]api.Node{text(large), nest(text("a"), 40)}, `"` + large + `"` + nested(`"a"`, 40), api.ErrDeep},
		{[]api.Node{text(large), of("p", text("a"), text("b"))}, `"` + large + `"p["a""b"]`, api.ErrForm},
	}
}

func TestC1PrintAll(t *testing.T) {
	for i, c := range lists() {
		want := c.s
		if c.e != api.OK {
			want = ""
		}
		if s, e := codec.PrintAll(c.l); s != want || e != c.e {
			t.Errorf("%d: PrintAll is %.200q, %d, not %.200q, %d", i, s, e, want, c.e)
		}
	}
}

func TestC2ParseAll(t *testing.T) {
	for i, c := range lists() {
		want := c.l
		if c.e != api.OK {
			want = nil
		}
		if l, e := codec.ParseAll(c.s); !node.Same(of("x", l...), of("x", want...)) || e != c.e {
			t.Errorf("%d: ParseAll is %.200q, %d, not %.200q, %d", i, l, e, want, c.e)
		}
	}
}

func TestC2Parse(t *testing.T) {
	for i, c := range pairs() {
		if n, e := codec.Parse(c.s); !node.Same(n, c.n) || e != api.OK {
			t.Errorf("%d: Parse is %.200q, %d, not %.200q", i, n, e, c.n)
		}
	}
}

// TestC2ParseTellsForm: the same holds of a list, but for texts that are just more or less than one node.
func TestC2ParseTellsForm(t *testing.T) {
	for _, s := range []string{
		"p", "p[", "[]", "]", "[", "p]", "p[[]]", "p[]]", "p[q]", "p[q[]", "p[]q", "P[]", "é[]", "p1[]", "pq-r[]", "abcdefghi[]", "text[]", `text["a"]`, `text(a="1")[]`, "p[text[]]", "p{}", "p()", "p<>[]", `p<b>[]`, `p["a"`, `p"a"`, `p["a]`,
		" ", " p[]", "p[] ", "p []", "p[ ]", "p[]\n", "p[q[] r[]]", "p[q[],r[]]", `"a" "b"<b>`, `p["a"]x`, "\x00", "p[]\x00", "\xff", "\ufeffp[]",
		`"`, `""`, `"a`, `a"`, `"a""`, `"\"`, `"a\"`, `"\a"`, `"\n"`, `"\`, `"\\\"`, `"\u0041"`, `"a"b`, `'a'`, "\"\xff\"", "\"\xc3\"", "\"\xc3\\\"\"", "\"\xed\xa0\x80\"", "\"\xc0\xaf\"",
		`"a"<>`, `"a"<`, `"a"<b`, `"a">`, `"a"<b,>`, `"a"<,b>`, `"a"<,>`, `"a"<b,,c>`, `"a"<b c>`, `"a"<b, c>`, `"a"< b>`, `"a"<b >`, `"a"<b>>`, `"a"<b><c>`, `"a"<"b">`, `"a"<i,b>`, `"a"<b,b>`, `"a"<B>`, `"a"<text>`, `"a"<abcdefghi>`, `"a" <b>`, `"a"<b`, `<b>`, `<b>"a"`, `""<b>`,
		`p()[]`, `p(`, `p()`, `p(a)[]`, `p(a=)[]`, `p(a=1)[]`, `p(a="1"`, `p(a="1")`, `p(a="1"[]`, `p(a="1)[]`, `p(a"1")[]`, `p(="1")[]`, `p("1")[]`, `p(a="1" )[]`, `p( a="1")[]`, `p(a ="1")[]`, `p(a= "1")[]`, `p(a="1"b="2")[]`, `p(a="1"  b="2")[]`, `p(a="1",b="2")[]`, `p(a="1" b)[]`, "p(a=\"1\"\tb=\"2\")[]", `p(b="1" a="2")[]`, `p(a="1" a="2")[]`, `p(A="1")[]`, `p(text="1")[]`, `p(abcdefghi="1")[]`, `p (a="1")[]`, `p(a="1") []`, `p(a="1")(b="2")[]`, `p[](a="1")`, `(a="1")[]`, `p(a="\1")[]`, "p(a=\"\xff\")[]", `p(a="` + strings.Repeat("x", 41) + `")[]`, `p(a="` + strings.Repeat("é", 20) + `\"")[]`,
		`p["a""b"]`, `p["a"<b>"b"<b>]`, `p["a"q[]"b""c"]`, `p[q["a""b"]]`,
		// What is not well formed is told ahead of what is too deep or too large.
		nested("", 41) + "]", nested("", 50) + " ", nested("P[]", 50), nested(`"a""b"`, 50), strings.Repeat("p[", 50), nested(`"a"<b,b>`, 50), nested(`""`, 50), `p["` + strings.Repeat("a", 4000) + `"`, `p["` + strings.Repeat("a", 4000) + `""b"]`, `p["` + strings.Repeat("a", 4000) + "\xff\"]",
	} {
		if n, e := codec.Parse(s); e != api.ErrForm || !node.Same(n, api.Node{}) {
			t.Errorf("Parse(%.200q) is %.200q, %d", s, n, e)
		}
		if l, e := codec.ParseAll(s); e != api.ErrForm || len(l) != 0 {
			t.Errorf("ParseAll(%.200q) is %.200q, %d", s, l, e)
		}
	}
	for _, s := range []string{"", "p[]q[]", `"a"p[]`, `p[]"a"`, `"a""a"<b>`} {
		if n, e := codec.Parse(s); e != api.ErrForm || !node.Same(n, api.Node{}) {
			t.Errorf("Parse(%.200q) is %.200q, %d", s, n, e)
		}
	}
}

func TestC2ParseTellsDeepAndLarge(t *testing.T) {
	large := strings.Repeat("é", 4001)
	for s, want := range map[string]api.Errno{
		nested("", 40):                           api.OK,
		nested("", 41):                           api.ErrDeep,
		nested(`"a"`, 41):                        api.ErrDeep,
		nested(`"`+large+`"`, 41):                api.ErrDeep,
		"p[q[]" + nested("", 40) + "q[]]":        api.ErrDeep,
		nested(`"`+large+`"`, 40):                api.ErrLarge,
		`"` + large + `"`:                        api.ErrLarge,
		`"` + large[2:] + `"`:                    api.OK,
		`p["` + large[6:] + `"]`:                 api.OK,
		`p["` + large[4:] + `"]`:                 api.ErrLarge,
		"p[" + strings.Repeat("q[]", 1999) + "]": api.OK,
		"p[" + strings.Repeat("q[]", 2000) + "]": api.ErrLarge,
		`"` + strings.Repeat(`\\`, 4000) + `"`:   api.OK,
		`"` + strings.Repeat(`\"`, 4001) + `"`:   api.ErrLarge,
	} {
		n, e := codec.Parse(s)
		if e != want || (e == api.OK) == node.Same(n, api.Node{}) {
			t.Errorf("Parse(%.200q) is %.200q, %d, not %d", s, n, e, want)
		}
	}
}

// TestC2ParseTellsFormFarIn: what is too deep is looked at all the same, at each depth.
func TestC2ParseTellsFormFarIn(t *testing.T) {
	for depth := 38; depth < 46; depth++ {
		for s, want := range map[string]api.Errno{
			`"a"q[r["b""c"<i>]]"d"<b>`: api.ErrDeep, `q[r[]]q[r[]]`: api.ErrDeep, `"` + strings.Repeat("a", 4001) + `"q[r[]]`: api.ErrDeep,
			`"a""b"q[r[]]`: api.ErrForm, `q["a""b"r[]]`: api.ErrForm, `q[r["a""b"]]`: api.ErrForm, `q[r[""]]`: api.ErrForm, `q[r[text[]]]`: api.ErrForm,
			`q[r[s(b="" a="")[]]]`: api.ErrForm, `q[r["a"<b,b>]]`: api.ErrForm, `q[r[]`: api.ErrForm, `q[r[]]]`: api.ErrForm,
		} {
			if want == api.ErrDeep && depth < 39 {
				continue
			}
			if n, e := codec.Parse(nested(s, depth)); e != want || n.Kind != "" {
				t.Errorf("%d around %.200q: %d, not %d", depth, s, e, want)
			}
			if l, e := codec.ParseAll("q[]" + nested(s, depth)); e != want || len(l) != 0 {
				t.Errorf("%d around %.200q, in a list: %d, not %d", depth, s, e, want)
			}
		}
	}
}
