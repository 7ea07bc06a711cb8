package expr_test

import (
	"slices"
	"strings"
	"testing"

	"diptych/api"
	"diptych/expr"
)

// nest puts e into as many expressions in one another, right but for their number.
func nest(e expr.Expr, times int) expr.Expr {
	for i := range times {
		if i%2 == 0 {
			e = seq(e, name("b"))
		} else {
			e = alt(name("c"), e)
		}
	}
	return e
}

func checkWrong(t *testing.T, what string, e expr.Expr) {
	t.Helper()
	if s, f := expr.Print(e); expr.Right(e) || s != "" || f != api.ErrForm || expr.Has(e, nil) || expr.Has(e, []string{"a"}) {
		t.Error(what, len(s), f)
	}
}

func TestDeepAndWide(t *testing.T) {
	const nested = 1<<16 - 1
	const wide = 1 << 16
	for what, e := range map[string]expr.Expr{
		"deep":        nest(name("a"), nested),
		"deeper":      nest(star(name("a")), nested-1),
		"wide":        seq(slices.Repeat(list{name("c"), name("b"), name("a")}, wide)...),
		"wide choice": alt(slices.Repeat(list{name("c"), star(name("b")), seq(name("a"), name("a"))}, wide)...),
	} {
		checkWrong(t, what, e)
		if l := expr.Names(e); !slices.Equal(l, []string{"a", "b", "c"}) {
			t.Error(what, len(l))
		}
		if l := expr.Names(expr.Rename(e, "b", "z")); !slices.Equal(l, []string{"a", "c", "z"}) {
			t.Error(what, len(l))
		}
		if !same(expr.Rename(expr.Rename(e, "b", "z"), "z", "b"), e) {
			t.Error(what)
		}
	}
}

// TestEndless: what has itself in it is not right either, and that is soon told.
func TestEndless(t *testing.T) {
	for _, op := range []byte("nsa*+?x") {
		loop := list{of(op, name("a")), name("a")}
		loop[0].Kids = loop
		checkWrong(t, string(rune(op)), loop[0])
		alone := list{of(op)}
		alone[0].Kids = alone
		checkWrong(t, string(rune(op)), alone[0])
	}
	// Each is in a sequence or alternatives, by turns, as may be: the number alone tells.
	turns, back := list{seq(), name("a")}, list{alt(), name("b")}
	turns[0].Kids, back[0].Kids = back, turns
	checkWrong(t, "by turns", seq(back...))
}

func TestLongTexts(t *testing.T) {
	const long = 1 << 22
	for _, part := range []string{"(", "((", ")", "()", "(()", "a", "a ", "a|", "|", " ", "*", "a*", "a* ", "(a ", "(a|", "(a b)*|", "a|b c|", "é", "\xff"} {
		s := strings.Repeat(part, long/len(part))
		for _, all := range []string{s, "a" + s, s + "a", "(" + s + "a)*"} {
			if e, f := expr.Parse(all); f != api.ErrForm || !none(e) {
				t.Errorf("%.20q: %d", all, f)
			}
		}
	}
	s := strings.Repeat("(", long) + "a b" + strings.Repeat(")", long) + "*"
	if e, f := expr.Parse(s); f != api.ErrForm || !none(e) {
		t.Errorf("%.20q: %d", s, f)
	}
}

// TestLongWords: how long it takes to tell hangs on how long the word is, and not on how many ways there are to see it.
func TestLongWords(t *testing.T) {
	const long = 1 << 19
	all := slices.Repeat([]string{"a"}, long)
	last := append(slices.Clone(all), "b")
	for s, want := range map[string][2]bool{
		"a*":                                 {true, false},
		"a* b":                               {false, true},
		"(a*|a*|(a* a*)+)*":                  {true, false},
		"(a|a|a a|a+|a*)* b?":                {true, true},
		"(a? a? a? a? a? a? a? a? a? a?)* b": {false, true},
		"(a a)*":                             {true, false},
		"(a a a)* b":                         {false, false},
		"a? a? a?":                           {false, false},
		"()":                                 {false, false},
	} {
		e := parsed(t, s)
		if got := [2]bool{expr.Has(e, all), expr.Has(e, last)}; got != want {
			t.Error(s, got)
		}
	}
	if expr.Has(parsed(t, "a*"), []string{strings.Repeat("a", long)}) {
		t.Error("long kind")
	}
}

// full is an Expr with something behind each list's length, and a word likewise.
func full() (expr.Expr, []string) {
	e := seq(name("a"), alt(name("b"), star(name("a")), name("behind")), name("behind"))
	e.Kids[1].Kids[1].Kids = append(make(list, 0, 2), name("a"))
	e.Kids[1].Kids = e.Kids[1].Kids[:2]
	e.Kids = e.Kids[:2]
	return e, []string{"a", "b", "behind"}[:2]
}

func unchanged(e expr.Expr, word []string) bool {
	was, words := full()
	choice := e.Kids[1].Kids
	return same(e, was) && slices.Equal(word, words) && word[:3][2] == "behind" &&
		same(e.Kids[:3][2], name("behind")) && same(choice[:3][2], name("behind")) && none(choice[1].Kids[:2][1])
}

func TestNothingIsWrittenInto(t *testing.T) {
	e, word := full()
	if s, f := expr.Print(e); s != "a (b|a*)" || f != api.OK || !expr.Right(e) || !expr.Has(e, word) {
		t.Error(s, f)
	}
	if l := expr.Names(e); !slices.Equal(l, []string{"a", "b"}) {
		t.Error(l)
	}
	for _, to := range []string{"a", "b", "z", ""} {
		expr.Rename(e, "a", to)
		expr.Rename(e, "b", to)
		expr.Rename(e, "behind", to)
	}
	if !unchanged(e, word) {
		t.Errorf("%q, %q", e, word)
	}
}

// spoil writes into each list of an Expr, and behind it.
func spoil(e expr.Expr) {
	_ = append(e.Kids, name("spoilt"))
	for i, k := range e.Kids {
		spoil(k)
		e.Kids[i] = name("spoilt")
	}
}

func TestAnswersAreNew(t *testing.T) {
	e, word := full()
	for _, from := range []string{"a", "b", "none"} {
		spoil(expr.Rename(e, from, "z"))
		spoil(expr.Rename(e, from, from))
	}
	if !unchanged(e, word) {
		t.Errorf("%q", e)
	}
	const s = "a b|(a b)*|()"
	first := parsed(t, s)
	spoil(first)
	if again, _ := expr.Print(parsed(t, s)); again != s {
		t.Error(again)
	}
	l := expr.Names(e)
	l[0] = "spoilt"
	if again := expr.Names(e); !slices.Equal(again, []string{"a", "b"}) || !unchanged(e, word) {
		t.Error(again)
	}
}

// TestNoTwoListsShare: lists that the Expr handed in has twice are each by itself in the answer.
func TestNoTwoListsShare(t *testing.T) {
	twin := star(seq(name("a"), name("b")))
	for i, e := range []expr.Expr{
		expr.Rename(alt(twin, twin, name("c"), twin), "a", "z"),
		parsed(t, "(z b)*|(z b)*|c|(z b)*"),
	} {
		for j := range e.Kids {
			rest := alt(e.Kids[j+1:]...)
			want := expr.Rename(rest, "", "")
			spoil(e.Kids[j])
			if !same(rest, want) {
				t.Errorf("%d, %d: %q, not %q", i, j, rest, want)
			}
		}
	}
}

// TestNothingIsKept: what was answered stays, whatever becomes of what was handed in.
func TestNothingIsKept(t *testing.T) {
	e, _ := full()
	renamed, names := expr.Rename(e, "a", "z"), expr.Names(e)
	spoil(e)
	if s, f := expr.Print(renamed); s != "z (b|z*)" || f != api.OK || !slices.Equal(names, []string{"a", "b"}) {
		t.Error(s, f, names)
	}
}

func TestTheSameAgain(t *testing.T) {
	e := parsed(t, "(a|b|text)* (c|d e)? (f|g h|i)+")
	first := shown(expr.Rename(e, "e", "x")) + strings.Join(expr.Names(e), ",")
	for range 100 {
		if again := shown(expr.Rename(e, "e", "x")) + strings.Join(expr.Names(e), ","); again != first {
			t.Fatal(again, first)
		}
		if !expr.Has(e, []string{"text", "a", "d", "e", "g", "h", "i"}) || expr.Has(e, []string{"text", "d", "g", "h"}) {
			t.Fatal("rows")
		}
	}
}
