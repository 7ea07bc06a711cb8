package expr_test

import (
	"slices"
	"strings"
	"testing"

	"diptych/api"
	"diptych/expr"
)

type list = []expr.Expr

func name(s string) expr.Expr { return expr.Expr{Op: expr.Name, Name: s} }

func of(op byte, kids ...expr.Expr) expr.Expr { return expr.Expr{Op: op, Kids: kids} }

func seq(kids ...expr.Expr) expr.Expr { return of(expr.Seq, kids...) }

func alt(kids ...expr.Expr) expr.Expr { return of(expr.Alt, kids...) }

func star(e expr.Expr) expr.Expr { return of(expr.Star, e) }

func plus(e expr.Expr) expr.Expr { return of(expr.Plus, e) }

func opt(e expr.Expr) expr.Expr { return of(expr.Opt, e) }

// many is a list of one expression as many times.
func many(e expr.Expr, times int) list { return slices.Repeat(list{e}, times) }

func same(a, b expr.Expr) bool {
	return a.Op == b.Op && a.Name == b.Name && slices.EqualFunc(a.Kids, b.Kids, same)
}

func none(e expr.Expr) bool { return same(e, expr.Expr{}) }

func parsed(t *testing.T, s string) expr.Expr {
	t.Helper()
	e, f := expr.Parse(s)
	if f != api.OK {
		t.Fatal(s, f)
	}
	return e
}

// pair is a right expression, and how it is written.
type pair struct {
	e expr.Expr
	s string
}

func pairs() []pair {
	a, b, c := name("a"), name("b"), name("c")
	return []pair{
		{a, "a"},
		{name("text"), "text"},
		{name("abcdefgh"), "abcdefgh"},
		{name("z"), "z"},
		{name("n"), "n"},
		{seq(), "()"},
		{seq(a, b), "a b"},
		{seq(a, a, a), "a a a"},
		{seq(name("text"), name("texts")), "text texts"},
		{alt(a, b), "a|b"},
		{alt(a, a), "a|a"},
		{alt(a, b, c), "a|b|c"},
		{alt(seq(), a), "()|a"},
		{alt(a, seq()), "a|()"},
		{alt(seq(), seq()), "()|()"},
		{alt(seq(a, b), c), "a b|c"},
		{alt(a, seq(b, c), seq(c, b)), "a|b c|c b"},
		{alt(star(a), plus(b), opt(c)), "a*|b+|c?"},
		{alt(seq(star(a), b), opt(seq(b, c))), "a* b|(b c)?"},
		{alt(star(alt(a, b)), c), "(a|b)*|c"},
		{seq(a, alt(b, c)), "a (b|c)"},
		{seq(alt(a, b), c), "(a|b) c"},
		{seq(alt(a, b), alt(b, c)), "(a|b) (b|c)"},
		{seq(alt(seq(a, b), c), c), "(a b|c) c"},
		{seq(a, alt(b, seq())), "a (b|())"},
		{seq(star(a), plus(b), opt(c)), "a* b+ c?"},
		{seq(a, star(seq(b, c)), a), "a (b c)* a"},
		{seq(opt(seq()), plus(seq())), "()? ()+"},
		{star(a), "a*"},
		{plus(a), "a+"},
		{opt(a), "a?"},
		{star(name("text")), "text*"},
		{star(seq()), "()*"},
		{plus(seq()), "()+"},
		{opt(seq()), "()?"},
		{star(seq(a, b)), "(a b)*"},
		{plus(seq(a, b)), "(a b)+"},
		{opt(seq(a, b)), "(a b)?"},
		{star(alt(a, b)), "(a|b)*"},
		{plus(alt(name("para"), name("list"))), "(para|list)+"},
		{opt(alt(a, seq(b, c))), "(a|b c)?"},
		{star(seq(a, plus(alt(b, star(seq(c, a)))))), "(a (b|(c a)*)+)*"},
		{seq(many(a, 23)...), strings.Repeat("a ", 22) + "a"},
		{alt(many(name("abcdefgh"), 23)...), strings.Repeat("abcdefgh|", 22) + "abcdefgh"},
		{star(seq(many(a, 22)...)), "(" + strings.Repeat("a ", 21) + "a)*"},
		{plus(alt(append(many(star(a), 10), seq(), seq())...)), "(" + strings.Repeat("a*|", 10) + "()|())+"},
		{deepest(), strings.Repeat("(a ", 7) + "a|a" + strings.Repeat(")*", 7)},
	}
}

// deepest has 24 expressions, in one another as deep as they go.
func deepest() expr.Expr {
	e := alt(seq(name("a"), name("a")), name("a"))
	for range 6 {
		e = seq(name("a"), star(e))
	}
	return star(e)
}

// wrongs are expressions that are not right, each for one reason.
func wrongs() list {
	a, b, c := name("a"), name("b"), name("c")
	return list{
		{},
		name(""),
		name("A"),
		name("a1"),
		name("a b"),
		name("a|b"),
		name("()"),
		name("a*"),
		name("é"),
		name("a\x00"),
		name("\xff"),
		name("abcdefghi"),
		name("texttext t"),
		name("Text"),
		{Op: expr.Name, Name: "a", Kids: list{b}},
		{Op: expr.Name, Name: "text", Kids: list{{}}},
		{Op: expr.Name, Kids: list{b}},
		{Name: "a"},
		of(0, a),
		of('x', a),
		of('x', a, b),
		of('N', a),
		of('|', a, b),
		of('(', a),
		of(0xff, a),
		{Op: 'x', Name: "a"},
		seq(a),
		seq(seq()),
		seq(a, seq()),
		seq(seq(), a),
		seq(seq(), seq()),
		seq(seq(a, b), c),
		seq(a, b, seq(b, c)),
		seq(a, name("")),
		seq(name("A"), a),
		seq(a, expr.Expr{}, b),
		{Op: expr.Seq, Name: "a"},
		{Op: expr.Seq, Name: "a", Kids: list{a, b}},
		alt(),
		alt(a),
		alt(alt(a, b), c),
		alt(a, b, alt(b, c)),
		alt(a, name("text1")),
		alt(a, seq(b)),
		alt(a, seq(b, seq())),
		{Op: expr.Alt, Name: "a", Kids: list{a, b}},
		of(expr.Star),
		of(expr.Plus),
		of(expr.Opt),
		of(expr.Star, a, b),
		of(expr.Plus, a, b),
		of(expr.Opt, a, b),
		star(star(a)),
		star(plus(a)),
		star(opt(a)),
		plus(star(a)),
		plus(plus(a)),
		plus(opt(a)),
		opt(star(a)),
		opt(plus(a)),
		opt(opt(a)),
		star(expr.Expr{}),
		star(name("")),
		star(alt(a)),
		{Op: expr.Star, Name: "a", Kids: list{b}},
		{Op: expr.Plus, Name: "a", Kids: list{b}},
		{Op: expr.Opt, Name: "a", Kids: list{b}},
		star(expr.Expr{Op: expr.Seq, Name: "a"}),
		seq(a, star(seq(b, alt(c, star(expr.Expr{Op: expr.Name, Name: "a", Kids: list{a}}))))),
		seq(many(a, 24)...),
		alt(many(a, 24)...),
		star(seq(many(a, 23)...)),
		seq(many(star(a), 12)...),
		alt(deepest(), a),
		alt(append(many(seq(a, b), 7), a, b, c)...),
	}
}

func TestE1Right(t *testing.T) {
	for i, c := range pairs() {
		if !expr.Right(c.e) {
			t.Error(i, c.s)
		}
	}
	for i, e := range wrongs() {
		if expr.Right(e) {
			t.Errorf("%d: %.200q", i, e)
		}
	}
}

// withAll are right expressions, but for the count: there are as many in each as n says.
func withAll(n int) list {
	a := name("a")
	return list{
		seq(many(a, n-1)...),
		alt(many(a, n-1)...),
		alt(append(many(a, n/2), many(seq(), n-1-n/2)...)...),
		star(seq(many(a, n-2)...)),
		alt(append(many(star(a), (n-1)/2), many(a, (n-1)%2)...)...),
		alt(append(many(seq(a, a), (n-3)/3), many(a, 2+n%3)...)...),
	}
}

// TestE1TwentyFour: the count goes over all that is in an expression, itself among them.
func TestE1TwentyFour(t *testing.T) {
	for n := 6; n <= 40; n++ {
		for i, e := range withAll(n) {
			if expr.Right(e) != (n <= 24) {
				t.Error(n, i)
			}
			s, f := expr.Print(e)
			if (f == api.OK) != (n <= 24) || (s == "") != (n > 24) {
				t.Error(n, i, s, f)
			}
		}
	}
}

// TestE1NilAndEmpty: a list of nothing is one or the other.
func TestE1NilAndEmpty(t *testing.T) {
	for s, e := range map[string]expr.Expr{"a": {Op: expr.Name, Name: "a", Kids: list{}}, "()": {Op: expr.Seq, Kids: list{}}} {
		if got, f := expr.Print(e); !expr.Right(e) || got != s || f != api.OK {
			t.Error(s, got, f)
		}
	}
}

func TestE1Print(t *testing.T) {
	for i, c := range pairs() {
		if s, f := expr.Print(c.e); s != c.s || f != api.OK {
			t.Errorf("%d: %q, %d, not %q", i, s, f, c.s)
		}
	}
	for i, e := range wrongs() {
		if s, f := expr.Print(e); s != "" || f != api.ErrForm {
			t.Errorf("%d: %q, %d", i, s, f)
		}
	}
}

func TestE1Parse(t *testing.T) {
	for i, c := range pairs() {
		if e, f := expr.Parse(c.s); !same(e, c.e) || f != api.OK {
			t.Errorf("%d: %q is %q, %d", i, c.s, e, f)
		}
	}
}

func TestE1ParseRefuses(t *testing.T) {
	for _, s := range []string{
		"", " ", "  ", "a ", " a", "a  b", "\ta", "a\n", "a\tb", "a\u00a0b", "a,b",
		"A", "aB", "a1", "1", "_", "é", "aé", "\xff", "a\xff", "\x00", "a\x00", "abcdefghi", "abcdefghi|a", "a abcdefghi", "(a|abcdefghi)*",
		"*", "+", "?", "|", "(", ")", ")(", "a|", "|a", "a||b", "a |b", "a| b", "a | b", "a|*", "a *", "a| *", "* a",
		"a**", "a*+", "a?*", "(a*)*", "(a+)?", "(a*)", "a*b", "a*(b|c)", "a()", "()a", "a(b|c)", "(a|b)c", "(a|b)(b|c)",
		"(a)", "(a)*", "((a))", "(a b)", "(a|b)", "((a b))*", "((a|b))+", "((a|b)) c", "(a) b", "a (b)", "a (b c)", "(a b) c", "(a b c) d*", "a (b*)",
		"(a b)|c", "a|(b c)", "(a|b)|c", "a|(b|c)", "(a)|b", "a|(b*)", "(()|a)", "(a|())", "(a b|c)",
		"()()", "() a", "a ()", "() ()", "(())", "(())*", "( )", "( )*", "()**", "()|", "(()", "())", "(a ())*", "((a b) c)*", "((a b)|c)*",
		"(a", "a)", "(a b", "a b)", "(a b*", "(a b)*)", "((a b)*", "(a|b", "(|a)", "(a|)*", "(a )*", "( a b)*", "(*)", "(a b)* ", "a b|", "a b |c",
	} {
		if e, f := expr.Parse(s); !none(e) || f != api.ErrForm {
			t.Errorf("%q is %q, %d", s, e, f)
		}
	}
}

// TestE1ParseAndTheCount: what has more than 24 expressions in it is not right, also where it is written well.
func TestE1ParseAndTheCount(t *testing.T) {
	for _, part := range []struct {
		s    string
		each int
	}{{"a", 1}, {"abcdefgh", 1}, {"a*", 2}, {"()+", 2}, {"(a a)?", 4}, {"(a|a|a*)*", 6}} {
		for n := 2; n <= 50; n++ {
			for _, between := range []string{" ", "|"} {
				s := strings.Repeat(part.s+between, n-1) + part.s
				want := api.OK
				if 1+n*part.each > 24 {
					want = api.ErrForm
				}
				e, f := expr.Parse(s)
				if f != want || f == api.OK && len(e.Kids) != n || f != api.OK && !none(e) {
					t.Errorf("%q is %q, %d", s, e, f)
				}
			}
		}
	}
}

func TestE2Names(t *testing.T) {
	for _, c := range []struct {
		e    expr.Expr
		want []string
	}{
		{parsed(t, "a"), []string{"a"}},
		{parsed(t, "text"), []string{"text"}},
		{parsed(t, "()"), nil},
		{parsed(t, "()*|()"), nil},
		{parsed(t, "b (a|c b)* a"), []string{"a", "b", "c"}},
		{parsed(t, "z|y|zz|text|a|z"), []string{"a", "text", "y", "z", "zz"}},
		{parsed(t, "ab|b|a|aa|abc|ba"), []string{"a", "aa", "ab", "abc", "b", "ba"}},
		{parsed(t, "a a a a"), []string{"a"}},
		// Of any Expr: names are those with the Op of a name, whatever their Names, wherever they stand.
		{expr.Expr{}, nil},
		{name(""), []string{""}},
		{expr.Expr{Name: "a"}, nil},
		{expr.Expr{Op: expr.Star, Name: "a", Kids: list{name("b"), name("a c")}}, []string{"a c", "b"}},
		{expr.Expr{Op: expr.Seq, Name: "a"}, nil},
		{of('x', name("b"), of(0, name("A"), of(expr.Alt, name("")))), []string{"", "A", "b"}},
		{seq(name("\xff"), name("é"), name("z"), name("Z"), name("\x00"), name("\xff")), []string{"\x00", "Z", "z", "é", "\xff"}},
		// Of a name its Name alone.
		{expr.Expr{Op: expr.Name, Name: "b", Kids: list{name("a"), star(name("c"))}}, []string{"b"}},
		{expr.Expr{Op: expr.Name, Kids: list{name("a")}}, []string{""}},
		{seq(name("d"), expr.Expr{Op: expr.Name, Name: "b", Kids: list{name("a")}}), []string{"b", "d"}},
	} {
		if got := expr.Names(c.e); !slices.Equal(got, c.want) {
			t.Errorf("%q has %q, not %q", c.e, got, c.want)
		}
	}
}

func TestE2Rename(t *testing.T) {
	for _, c := range []struct{ s, from, to, want string }{
		{"a", "a", "b", "b"},
		{"a", "b", "c", "a"},
		{"a", "a", "a", "a"},
		{"a", "", "b", "a"},
		{"a", "aa", "b", "a"},
		{"aa", "a", "b", "aa"},
		{"text", "text", "a", "a"},
		{"a", "a", "text", "text"},
		{"()", "", "a", "()"},
		{"()*|()", "s", "a", "()*|()"},
		{"b (a|c b)* a", "b", "z", "z (a|c z)* a"},
		{"b (a|c b)* a", "a", "b", "b (b|c b)* b"},
		{"a a* a+ a?", "a", "abcdefgh", "abcdefgh abcdefgh* abcdefgh+ abcdefgh?"},
		{"a|n|s", "s", "n", "a|n|n"},
	} {
		if s, f := expr.Print(expr.Rename(parsed(t, c.s), c.from, c.to)); s != c.want || f != api.OK {
			t.Errorf("%q with %q for %q: %q, %d", c.s, c.to, c.from, s, f)
		}
	}
}

// TestE2RenameOfAny: all but the Names of names stays as it is, whatever the Expr.
func TestE2RenameOfAny(t *testing.T) {
	for i, c := range []struct {
		e        expr.Expr
		from, to string
		want     expr.Expr
	}{
		{expr.Expr{}, "", "a", expr.Expr{}},
		{name(""), "", "a", name("a")},
		{name("a"), "a", "", name("")},
		{name("a"), "a", "No Name", name("No Name")},
		{name("\xff"), "\xff", "\xfe", name("\xfe")},
		{name("\xff"), "\ufffd", "a", name("\xff")},
		{expr.Expr{Name: "a"}, "a", "b", expr.Expr{Name: "a"}},
		{expr.Expr{Op: expr.Star, Name: "a", Kids: list{name("a"), name("c")}}, "a", "b", expr.Expr{Op: expr.Star, Name: "a", Kids: list{name("b"), name("c")}}},
		{expr.Expr{Op: 'x', Name: "a", Kids: list{of(0, name("a"))}}, "a", "b", expr.Expr{Op: 'x', Name: "a", Kids: list{of(0, name("b"))}}},
		{seq(seq(name("a"))), "a", "b", seq(seq(name("b")))},
		// Names in a name are names too.
		{expr.Expr{Op: expr.Name, Name: "a", Kids: list{name("a"), name("c")}}, "a", "b", expr.Expr{Op: expr.Name, Name: "b", Kids: list{name("b"), name("c")}}},
		{expr.Expr{Op: expr.Name, Name: "c", Kids: list{star(name("a"))}}, "a", "b", expr.Expr{Op: expr.Name, Name: "c", Kids: list{star(name("b"))}}},
	} {
		if got := expr.Rename(c.e, c.from, c.to); !same(got, c.want) {
			t.Errorf("%d: %q", i, got)
		}
	}
}

func TestE2Has(t *testing.T) {
	for s, c := range map[string]struct{ yes, no []string }{
		"a":              {[]string{"a"}, []string{"", "b", "a a", "a b", "b a", "aa"}},
		"text":           {[]string{"text"}, []string{"", "a", "text text"}},
		"()":             {[]string{""}, []string{"a", "()"}},
		"a b":            {[]string{"a b"}, []string{"", "a", "b", "b a", "a b a", "a a b", "a b b"}},
		"a|b":            {[]string{"a", "b"}, []string{"", "a b", "b a", "a a", "c"}},
		"a|()":           {[]string{"", "a"}, []string{"a a", "b"}},
		"a|b c":          {[]string{"a", "b c"}, []string{"a c", "b", "c", "a b c", ""}},
		"a b|a c":        {[]string{"a b", "a c"}, []string{"a", "a b c", "a c b"}},
		"a*":             {[]string{"", "a", "a a", "a a a a a"}, []string{"b", "a b", "a a b", "b a"}},
		"a+":             {[]string{"a", "a a", "a a a a a"}, []string{"", "b", "a b"}},
		"a?":             {[]string{"", "a"}, []string{"a a", "b"}},
		"()*":            {[]string{""}, []string{"a"}},
		"()+":            {[]string{""}, []string{"a"}},
		"()?":            {[]string{""}, []string{"a"}},
		"(a b)*":         {[]string{"", "a b", "a b a b"}, []string{"a", "a b a", "b a", "a a b b"}},
		"(a b)+":         {[]string{"a b", "a b a b"}, []string{"", "a", "a b a"}},
		"(a b)?":         {[]string{"", "a b"}, []string{"a", "b", "a b a b"}},
		"(a|b)* c":       {[]string{"c", "a c", "a b b a c"}, []string{"", "a", "c c", "a c b", "c a"}},
		"(para|list)+":   {[]string{"para", "list para", "para para list"}, []string{"", "text", "para text"}},
		"a* a":           {[]string{"a", "a a", "a a a"}, []string{"", "b", "a b"}},
		"a a*":           {[]string{"a", "a a", "a a a"}, []string{"", "b", "a b"}},
		"a? a?":          {[]string{"", "a", "a a"}, []string{"a a a"}},
		"a? b? c?":       {[]string{"", "a", "b", "c", "a b", "a c", "b c", "a b c"}, []string{"b a", "c b", "a a", "a b c c"}},
		"a? b+ c?":       {[]string{"b", "a b", "b c", "a b b c"}, []string{"", "a", "c", "a c", "a a b", "b c c"}},
		"a* b* c*":       {[]string{"", "a c", "a a b c c", "b", "b c"}, []string{"b a", "c b", "a c a"}},
		"(a* b*)+":       {[]string{"", "a", "b a", "b b a a b"}, []string{"c", "a c"}},
		"(a?|b)+":        {[]string{"", "a a", "b a b"}, []string{"c"}},
		"(a? b?)+ c":     {[]string{"c", "b a c", "a a b b c"}, []string{"", "a", "c a"}},
		"(a*|b)+ c":      {[]string{"c", "a a b a c", "b b c"}, []string{"", "a a b a"}},
		"a (a|b)* a":     {[]string{"a a", "a b a", "a a a a"}, []string{"a", "a b", "b a", ""}},
		"(a (b|c)? a)*":  {[]string{"", "a a", "a b a", "a a a c a"}, []string{"a", "a b", "a b c a", "a a a"}},
		"(a|b)* a (a|b)": {[]string{"a b", "a a", "b a b", "b b a a"}, []string{"a", "b b", "a b b", "a a b b"}},
	} {
		for _, w := range c.yes {
			if !expr.Has(parsed(t, s), strings.Fields(w)) {
				t.Errorf("%q has not %q", s, w)
			}
		}
		for _, w := range c.no {
			if expr.Has(parsed(t, s), strings.Fields(w)) {
				t.Errorf("%q has %q", s, w)
			}
		}
	}
}

// TestE2HasOddWords: kinds that no expression can name are in no row.
func TestE2HasOddWords(t *testing.T) {
	for _, word := range [][]string{{""}, {"A"}, {"a b"}, {"a", ""}, {"", "a"}, {"a", "\xff"}, {"a*"}, {"|"}, {strings.Repeat("a", 1000)}} {
		for _, s := range []string{"a", "a*", "(a|b)*", "a b", "()", "()*"} {
			if expr.Has(parsed(t, s), word) {
				t.Errorf("%q has %q", s, word)
			}
		}
	}
}

// TestE2HasOfWrong: what is not right means nothing, not even where it looks as if it did.
func TestE2HasOfWrong(t *testing.T) {
	words := [][]string{nil, {}, {""}, {"a"}, {"a", "b"}, {"A"}, {"a b"}, slices.Repeat([]string{"a"}, 24), slices.Repeat([]string{"a"}, 23)}
	for i, e := range wrongs() {
		for _, w := range words {
			if expr.Has(e, w) {
				t.Errorf("%d: %q has %q", i, e, w)
			}
		}
	}
}
