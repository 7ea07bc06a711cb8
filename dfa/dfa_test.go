package dfa_test

import (
	"fmt"
	"math"
	"reflect"
	"slices"
	"strings"
	"testing"

	"diptych/api"
	"diptych/dfa"
	"diptych/expr"
)

type list = []expr.Expr

func name(s string) expr.Expr { return expr.Expr{Op: expr.Name, Name: s} }

func op(op byte, kids ...expr.Expr) expr.Expr { return expr.Expr{Op: op, Kids: kids} }

func parsed(t testing.TB, s string) expr.Expr {
	t.Helper()
	e, f := expr.Parse(s)
	if f != api.OK {
		t.Fatal(s, f)
	}
	return e
}

func of(t testing.TB, s string) dfa.Dfa {
	t.Helper()
	d, f := dfa.Of(parsed(t, s))
	if f != api.OK {
		t.Fatal(s, f)
	}
	return d
}

// shown tells all of a Dfa.
func shown(d dfa.Dfa) string {
	return fmt.Sprint(d.Names, d.Next, d.Final)
}

func TestD1Of(t *testing.T) {
	for s, want := range map[string]string{
		// one of each kind
		"a":     "[a] [[1] [-1]] [false true]",
		"text":  "[text] [[1] [-1]] [false true]",
		"()":    "[] [[]] [true]",
		"a b":   "[a b] [[1 -1] [-1 2] [-1 -1]] [false false true]",
		"b a":   "[a b] [[-1 1] [2 -1] [-1 -1]] [false false true]",
		"a a a": "[a] [[1] [2] [3] [-1]] [false false false true]",
		"a|b":   "[a b] [[1 1] [-1 -1]] [false true]",
		"a*":    "[a] [[0]] [true]",
		"a+":    "[a] [[1] [1]] [false true]",
		"a?":    "[a] [[1] [-1]] [true true]",
		"a b*":  "[a b] [[1 -1] [-1 1]] [false true]",
		// of the row of nothing
		"()*":     "[] [[]] [true]",
		"()+":     "[] [[]] [true]",
		"()?":     "[] [[]] [true]",
		"()|()":   "[] [[]] [true]",
		"()|a":    "[a] [[1] [-1]] [true true]",
		"(a|())+": "[a] [[0]] [true]",
		"()? a":   "[a] [[1] [-1]] [false true]",
		"()* ()+": "[] [[]] [true]",
		// a sequence of which some mean the row of nothing
		"a? b":     "[a b] [[1 2] [-1 2] [-1 -1]] [false false true]",
		"a b?":     "[a b] [[1 -1] [-1 2] [-1 -1]] [false true true]",
		"a? b?":    "[a b] [[1 2] [-1 2] [-1 -1]] [true true true]",
		"a* b*":    "[a b] [[0 1] [-1 1]] [true true]",
		"a? a?":    "[a] [[1] [2] [-1]] [true true true]",
		"a* a":     "[a] [[1] [1]] [false true]",
		"a b* c":   "[a b c] [[1 -1 -1] [-1 1 2] [-1 -1 -1]] [false false true]",
		"a? b* c?": "[a b c] [[1 1 2] [-1 1 2] [-1 -1 -1]] [true true true]",
		// what comes again
		"(a b)*":           "[a b] [[1 -1] [-1 0]] [true false]",
		"(a b)+":           "[a b] [[1 -1] [-1 2] [1 -1]] [false false true]",
		"(a b)?":           "[a b] [[1 -1] [-1 2] [-1 -1]] [true false true]",
		"(a b?)*":          "[a b] [[1 -1] [1 0]] [true true]",
		"(a? b)+":          "[a b] [[1 2] [-1 2] [1 2]] [false false true]",
		"(a? b?)+":         "[a b] [[0 0]] [true]",
		"(a+ b+)+":         "[a b] [[1 -1] [1 2] [1 2]] [false false true]",
		"(a* b)*":          "[a b] [[1 0] [1 0]] [true false]",
		"((a b)* c)*":      "[a b c] [[1 -1 0] [-1 2 -1] [1 -1 0]] [true false false]",
		"(a (b|(c a)*)+)*": "[a b c] [[1 -1 -1] [1 1 2] [1 -1 -1]] [true true false]",
		"(a|b)* a":         "[a b] [[1 0] [1 0]] [false true]",
		"a (a|b)*":         "[a b] [[1 -1] [1 1]] [false true]",
		"(a|b)* a b":       "[a b] [[1 0] [1 2] [1 0]] [false false true]",
		"(a a)*":           "[a] [[1] [0]] [true false]",
		"(a a|a a a)*":     "[a] [[1] [2] [2]] [true false true]",
		// states that mean the same are one
		"a|a":             "[a] [[1] [-1]] [false true]",
		"a b|a c":         "[a b c] [[1 -1 -1] [-1 2 2] [-1 -1 -1]] [false false true]",
		"b a|c a":         "[a b c] [[-1 1 1] [2 -1 -1] [-1 -1 -1]] [false false true]",
		"a c|b c|c c":     "[a b c] [[1 1 1] [-1 -1 2] [-1 -1 -1]] [false false true]",
		"(a|b)*":          "[a b] [[0 0]] [true]",
		"(a*|b)*":         "[a b] [[0 0]] [true]",
		"a* (b a*)*":      "[a b] [[0 0]] [true]",
		"a a* a*":         "[a] [[1] [1]] [false true]",
		"(a|b) (a|b)":     "[a b] [[1 1] [2 2] [-1 -1]] [false false true]",
		"a a|a b|b a|b b": "[a b] [[1 1] [2 2] [-1 -1]] [false false true]",
		"a b c|b b c":     "[a b c] [[1 1 -1] [-1 2 -1] [-1 -1 3] [-1 -1 -1]] [false false false true]",
		"a b+|c b*":       "[a b c] [[1 -1 2] [-1 2 -1] [-1 2 -1]] [false false true]",
		// states are numbered as they are met, state by state, name by name
		"b a|a":         "[a b] [[1 2] [-1 -1] [1 -1]] [false true false]",
		"b b|a":         "[a b] [[1 2] [-1 -1] [-1 1]] [false true false]",
		"c|b c|a b c":   "[a b c] [[1 2 3] [-1 2 -1] [-1 -1 3] [-1 -1 -1]] [false false false true]",
		"b c c c|a c c": "[a b c] [[1 2 -1] [-1 -1 3] [-1 -1 1] [-1 -1 4] [-1 -1 -1]] [false false false false true]",
		// names are sorted by their bytes
		"z b|text":     "[b text z] [[-1 1 2] [-1 -1 -1] [1 -1 -1]] [false true false]",
		"aa|b|a|ab":    "[a aa ab b] [[1 1 1 1] [-1 -1 -1 -1]] [false true]",
		"(para|list)+": "[list para] [[1 1] [1 1]] [false true]",
	} {
		if got := shown(of(t, s)); got != want {
			t.Errorf("%s: %s, not %s", s, got, want)
		}
	}
}

func wrongs() list {
	a := name("a")
	loop := list{a, a}
	loop[0] = expr.Expr{Op: expr.Seq, Kids: loop}
	return list{
		{},
		name(""),
		name("A"),
		name("abcdefghi"),
		{Op: 'x'},
		{Op: 'x', Kids: list{a}},
		{Op: expr.Name, Name: "a", Kids: list{a}},
		{Op: expr.Seq, Name: "a"},
		op(expr.Seq, a),
		op(expr.Seq, a, op(expr.Seq)),
		op(expr.Alt),
		op(expr.Alt, a),
		op(expr.Alt, a, op(expr.Alt, a, a)),
		op(expr.Star),
		op(expr.Star, a, a),
		op(expr.Plus, op(expr.Star, a)),
		op(expr.Opt, name("A")),
		op(expr.Seq, a, op(expr.Star, op(expr.Alt, a, expr.Expr{}))),
		op(expr.Seq, slices.Repeat(list{a}, 24)...),
		op(expr.Alt, slices.Repeat(list{a}, 1<<16)...),
		loop[0],
	}
}

func TestD1OfWrong(t *testing.T) {
	for i, e := range wrongs() {
		if d, f := dfa.Of(e); f != api.ErrForm || len(d.Names)+len(d.Next)+len(d.Final) != 0 {
			t.Error(i, f, shown(d))
		}
	}
	deep := name("a")
	for range 1 << 15 {
		deep = op(expr.Seq, op(expr.Star, deep), name("b"))
	}
	if d, f := dfa.Of(deep); f != api.ErrForm || len(d.Names)+len(d.Next)+len(d.Final) != 0 {
		t.Error(f, shown(d))
	}
}

// TestD1TwentyFour: as large as an expression may be, with a place for each of its names, and with ones that come again.
func TestD1TwentyFour(t *testing.T) {
	row := of(t, strings.Repeat("a ", 22)+"a")
	if len(row.Next) != 24 || !dfa.Has(row, slices.Repeat([]string{"a"}, 23)) || dfa.Has(row, slices.Repeat([]string{"a"}, 22)) || dfa.Has(row, slices.Repeat([]string{"a"}, 24)) {
		t.Error(shown(row))
	}
	letters := strings.Split("abcdefghijklmnopqrstuvw", "")
	for s, want := range map[string]int{
		strings.Join(letters, " "):                                 24,
		strings.Join(letters, "|"):                                 2,
		"(" + strings.Join(letters[:22], " ") + ")*":               22,
		"(" + strings.Join(letters[:22], "|") + ")+":               2,
		strings.Join(letters[:11], "* ") + "*":                     11,
		strings.Join(letters[:11], "+|") + "+":                     12,
		strings.Repeat("(a ", 7) + "a|a" + strings.Repeat(")*", 7): 1,
		strings.Repeat("(a ", 7) + "b|c" + strings.Repeat(")*", 7): 8,
		strings.Repeat("a? ", 10) + "a?":                           12,
		"(a|b)* a" + strings.Repeat(" (a|b)", 5):                   64,
		"(a a a|a a a a|a a a a a a a)*":                           7,
		"(a a a a a)*|(a a a)*|(a a a a)*":                         60,
		"(a a a (a|a)? a a a a a a a a a a a a a a a)*":            307,
	} {
		if d := of(t, s); len(d.Next) != want {
			t.Errorf("%s has %d states, not %d", s, len(d.Next), want)
		}
	}
}

func TestD1Step(t *testing.T) {
	d := of(t, "b (text b)*")
	for i, c := range []struct {
		state int
		name  string
		want  int
	}{
		{0, "b", 1}, {0, "text", -1}, {1, "b", -1}, {1, "text", 0},
		{0, "", -1}, {0, "a", -1}, {0, "c", -1}, {0, "z", -1}, {0, "bb", -1}, {1, "tex", -1}, {1, "texts", -1}, {0, "B", -1}, {0, "\xff", -1},
		{-1, "b", -1}, {2, "b", -1}, {3, "text", -1}, {math.MinInt, "b", -1}, {math.MaxInt, "b", -1},
		{-1, "a", -1}, {2, "a", -1},
	} {
		if got := dfa.Step(d, c.state, c.name); got != c.want {
			t.Error(i, got)
		}
	}
	if got := dfa.Step(of(t, "()"), 0, "a"); got != -1 {
		t.Error(got)
	}
	if got := dfa.Step(dfa.Dfa{}, 0, "a"); got != -1 {
		t.Error(got)
	}
}

func TestD1Has(t *testing.T) {
	for s, c := range map[string]struct{ yes, no []string }{
		"()":            {[]string{""}, []string{"a", "()", "text"}},
		"a":             {[]string{"a"}, []string{"", "b", "a a", "aa", "A"}},
		"a b*":          {[]string{"a", "a b", "a b b b"}, []string{"", "b", "a a", "a b a", "a c", "c"}},
		"(para|list)+":  {[]string{"para", "list para"}, []string{"", "text", "para text", "lis", "parax"}},
		"(a|b)* a":      {[]string{"a", "b a", "a b b a"}, []string{"", "b", "a b", "a c a", "c a"}},
		"a* (b a*)*":    {[]string{"", "a", "b", "b b a"}, []string{"c", "a c"}},
		"text? (a|b c)": {[]string{"a", "text a", "b c", "text b c"}, []string{"", "text", "text b", "text text a", "a c"}},
	} {
		d := of(t, s)
		for _, w := range c.yes {
			if !dfa.Has(d, strings.Fields(w)) {
				t.Errorf("%s has not %q", s, w)
			}
		}
		for _, w := range c.no {
			if dfa.Has(d, strings.Fields(w)) {
				t.Errorf("%s has %q", s, w)
			}
		}
	}
	if dfa.Has(of(t, "a*"), []string{""}) || dfa.Has(of(t, "a*"), []string{"a", "", "a"}) {
		t.Error("a name without letters")
	}
}

func TestD2(t *testing.T) {
	for _, c := range []struct {
		a, b   string
		row    string
		apart  bool
		ab, ba bool
	}{
		{"a", "a", "", false, true, true},
		{"()", "()", "", false, true, true},
		{"()", "()*", "", false, true, true},
		{"a+", "a a*", "", false, true, true},
		{"a b|a c", "a (b|c)", "", false, true, true},
		{"(a|b)*", "a* (b a*)*", "", false, true, true},
		{"(a? b?)+", "(a|b)*", "", false, true, true},
		{"z|text|a", "a|text|z", "", false, true, true},
		// the row of nothing
		{"a*", "a+", "", true, false, true},
		{"()", "a", "", true, false, false},
		{"()", "a?", "a", true, true, false},
		{"a*", "b*", "a", true, false, false},
		{"b*", "c*", "b", true, false, false},
		{"()", "a*|b", "a", true, true, false},
		// the shortest one is told, of these the first one
		{"a", "b", "a", true, false, false},
		{"b|c", "c", "b", true, false, true},
		{"b|a c", "c|a b", "b", true, false, false},
		{"a b c|c", "a b d|c", "a b c", true, false, false},
		{"c b|b c|a d|b", "b|a c", "a c", true, false, false},
		{"c b|b c|b", "b|c a", "b c", true, false, false},
		{"a a", "a a a", "a a", true, false, false},
		{"a a a", "a a", "a a", true, false, false},
		{"a b", "a (b|c)", "a c", true, true, false},
		{"(a|b)* a (a|b)", "(a|b)* b (a|b)", "a a", true, false, false},
		{"(a a)*", "(a a a)*", "a a", true, false, false},
		{"(a a a a a a)*", "(a a a)*", "a a a", true, true, false},
		{"(a|b|c)*", "(a|b|c)* (a|b|c)", "", true, false, true},
		{"(a|b)*", "(b* a b* a)* b*", "a", true, false, true},
		{"(b b b b|a)*", "(b b|a)*", "b b", true, true, false},
		{"a* b a*|b c", "a* b a*|b d", "b c", true, false, false},
		// names by their bytes, not by their lengths, nor as they stand
		{"aa|b|ab", "()|b|c", "", true, false, false},
		{"b|aa", "c|aaa", "aa", true, false, false},
		{"ab|ac|b", "b", "ab", true, false, true},
		{"text|z", "z|u", "text", true, false, false},
		{"z|b", "()", "", true, false, false},
		// names that only one has
		{"a? b", "b", "a b", true, false, true},
		{"b", "(a c)? b", "a c b", true, true, false},
		{"a x* c", "a y* c", "a x c", true, false, false},
		{"a+", "(a|b|c|d)+", "b", true, true, false},
		{"a* b", "b* c", "b", true, false, false},
	} {
		a, b := of(t, c.a), of(t, c.b)
		row, apart := dfa.Apart(a, b)
		if strings.Join(row, " ") != c.row || len(row) != len(strings.Fields(c.row)) || apart != c.apart {
			t.Errorf("%s, %s: apart %q, %t", c.a, c.b, row, apart)
		}
		if back, again := dfa.Apart(b, a); !slices.Equal(back, row) || again != apart {
			t.Errorf("%s, %s: apart %q, %t", c.b, c.a, back, again)
		}
		if dfa.Same(a, b) == c.apart || dfa.Same(b, a) == c.apart {
			t.Errorf("%s, %s: same %t, %t", c.a, c.b, dfa.Same(a, b), dfa.Same(b, a))
		}
		if ab, ba := dfa.Within(a, b), dfa.Within(b, a); ab != c.ab || ba != c.ba {
			t.Errorf("%s, %s: within %t, %t", c.a, c.b, ab, ba)
		}
	}
}

// TestD2Numbers: rows of one name, so many of them that only many states tell them apart.
func TestD2Numbers(t *testing.T) {
	times := func(n int) string { return "(" + strings.Repeat("a ", n-1) + "a)*" }
	for n := 2; n <= 22; n++ {
		for m := 2; m <= 22; m++ {
			a, b := of(t, times(n)), of(t, times(m))
			row, apart := dfa.Apart(a, b)
			want := min(n, m)
			if n == m {
				want = 0
			}
			if apart != (n != m) || len(row) != want || dfa.Same(a, b) != (n == m) || dfa.Within(a, b) != (n%m == 0) {
				t.Error(n, m, row, apart, dfa.Same(a, b), dfa.Within(a, b))
			}
		}
	}
	nine := strings.Repeat("a ", 9)
	for _, c := range []struct {
		a, b string
		row  int
	}{
		{"(" + nine + "a?)*", "(" + nine[:17] + "|" + nine + "a)*", -1},
		{"(a a a|a a a a)*", "(a a a a?)* (a a a)?", -1},
		{"(a a a a a a a)*|a+|(a a a)*", "a*", -1},
		{"(a a a a a a a)*|(a a a)*", "(a a a)*", 7},
		{"(a a a a a)*|(a a a)*", "(a a a)* (a a a a a)*", 8},
		{strings.Repeat("a? ", 10) + "a?", "a*", 12},
		{strings.Repeat("a ", 22) + "a", strings.Repeat("a ", 21) + "a+", 22},
		{strings.Repeat("a ", 21) + "a", strings.Repeat("a ", 21) + "a+", 23},
		{"a a a a+", "a a a a|a a a a a a+", 5},
	} {
		row, apart := dfa.Apart(of(t, c.a), of(t, c.b))
		if apart != (c.row >= 0) || len(row) != max(c.row, 0) {
			t.Error(c.a, c.b, row, apart)
		}
	}
}

// TestD2ManyNames: as many names as an expression may have.
func TestD2ManyNames(t *testing.T) {
	letters := strings.Split("abcdefghijklmnopqrstuvw", "")
	first := of(t, strings.Join(letters, "|"))
	slices.Reverse(letters)
	if back := of(t, strings.Join(letters, "|")); !dfa.Same(first, back) || !dfa.Within(first, back) {
		t.Error(shown(first), shown(back))
	}
	for i := range letters {
		letters[i] += "z"
	}
	for i, c := range []struct {
		s, row         string
		within, around bool
	}{{strings.Join(letters, "|"), "a", false, false}, {"a|c|e|w", "b", false, true}, {"w", "a", false, true}, {strings.Join(letters, " "), "a", false, false}} {
		other := of(t, c.s)
		row, apart := dfa.Apart(first, other)
		if !apart || !slices.Equal(row, []string{c.row}) || dfa.Within(first, other) != c.within || dfa.Within(other, first) != c.around || dfa.Same(first, other) {
			t.Error(i, row, apart)
		}
	}
}

// TestD3: the examples of the least ones are one just where the rows are.
func TestD3(t *testing.T) {
	for _, l := range [][]string{
		{"a", "a|a", "()* a", "a|a|a"},
		{"a*", "a+|()", "(a|())*", "a*|a", "a* a*", "(a a|a)*", "(a? a?)+"},
		{"a+", "a a*", "a* a", "a+|a", "a* a+", "(a|a a)+"},
		{"(a|b)*", "a* (b a*)*", "(a* b*)*", "(b|a)*", "(a+|b)*"},
		{"a b|a c", "a (b|c)", "a c|a b"},
		{"a|b|c", "c|b|a", "(a|b|c) ()?"},
		{"(a|b)* a (a|b)", "(b* a)+ (a|b)|(a|b)* a (a|b)"},
		{"b* (a b*)?", "b* a? b*"},
	} {
		first := of(t, l[0])
		for _, s := range l {
			if d := of(t, s); !reflect.DeepEqual(d, first) {
				t.Errorf("%s: %s, but %s: %s", l[0], shown(first), s, shown(d))
			}
		}
	}
}
