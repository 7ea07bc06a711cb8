package dfa_test

import (
	"math"
	"reflect"
	"slices"
	"strings"
	"sync"
	"testing"

	"diptych/api"
	"diptych/dfa"
	"diptych/expr"
)

// odd are Dfas that Of does not tell: of them some answer comes.
func odd(t *testing.T) []dfa.Dfa {
	names := []string{"a", "b"}
	return []dfa.Dfa{
		{},
		{Names: names},
		{Final: []bool{true}},
		{Names: names, Final: []bool{true, true}},
		{Names: names, Next: [][]int{nil}},
		{Names: names, Next: [][]int{{0}}, Final: []bool{true}},
		{Names: names, Next: [][]int{{0, 1, 2, 3}}, Final: []bool{true}},
		{Names: names, Next: [][]int{{1, 1}}, Final: []bool{false, true}},
		{Names: names, Next: [][]int{{1, 0}, nil, {2, 2}}, Final: []bool{true}},
		{Names: names, Next: [][]int{{7, -7}}, Final: []bool{false}},
		{Names: names, Next: [][]int{{math.MaxInt, math.MinInt}, {1, 1}}, Final: []bool{false, true}},
		{Names: names, Next: [][]int{{0, 0}}},
		{Next: [][]int{{0}}, Final: []bool{true}},
		{Next: [][]int{{1}, {0}}, Final: []bool{true}},
		{Names: []string{"b", "a"}, Next: [][]int{{0, 1}, {1, 0}}, Final: []bool{false, true}},
		{Names: []string{"a", "a", "a"}, Next: [][]int{{0, 1, 2}, {2, 1, 0}, {2, 2, 2}}, Final: []bool{false, false, true}},
		{Names: []string{"", "\xff", "No Name"}, Next: [][]int{{0, 1, 0}, {1, -1, 0}}, Final: []bool{true, false}},
		{Names: names, Next: [][]int{{1, 1}, {1, 1}}, Final: []bool{false, false}},
		{Names: names, Next: [][]int{{1, 2}, {1, 2}, {1, 2}}, Final: []bool{true, true, true}},
		of(t, "a b*"),
		of(t, "()"),
	}
}

func TestP1OddOnes(t *testing.T) {
	l := odd(t)
	row := []string{"a", "b", "a"}
	for i, d := range l {
		for _, state := range []int{0, 1, 2, 3, 7, -1, math.MaxInt, math.MinInt} {
			for _, s := range []string{"a", "b", "", "c", "\xff"} {
				dfa.Step(d, state, s)
			}
		}
		for n := range row {
			dfa.Has(d, row[:n])
		}
		dfa.Has(d, []string{"", "\xff", "c"})
		for j, other := range l {
			dfa.Within(d, other)
			same := dfa.Same(d, other)
			if row, apart := dfa.Apart(d, other); !apart && len(row) != 0 || same == apart {
				t.Error(i, j, row, apart, same)
			}
		}
		if !dfa.Same(d, d) || !dfa.Within(d, d) {
			t.Error(i)
		}
	}
}

// ring goes round with one name, and ends where it began.
func ring(states int) dfa.Dfa {
	d := dfa.Dfa{Names: []string{"a"}, Final: make([]bool, states)}
	for i := range states {
		d.Next = append(d.Next, []int{(i + 1) % states})
	}
	d.Final[0] = true
	return d
}

// TestP1Large: of so many states Of tells none; what is told of them comes soon.
func TestP1Large(t *testing.T) {
	a, b := ring(1<<18), ring(1<<18-1)
	if row, apart := dfa.Apart(a, b); !apart || len(row) != 1<<18-1 || dfa.Same(a, b) || !dfa.Same(a, a) || !dfa.Within(b, b) {
		t.Error(len(row), apart)
	}
	a.Final = slices.Repeat([]bool{true}, len(a.Next))
	b.Final = slices.Repeat([]bool{true}, len(b.Next))
	if row, apart := dfa.Apart(a, b); apart || len(row) != 0 || !dfa.Same(a, b) {
		t.Error(len(row), apart)
	}
	dfa.Within(a, b)
	wide := dfa.Dfa{Next: [][]int{make([]int, 1<<18)}, Final: []bool{true}}
	for i := range 1 << 18 {
		wide.Names = append(wide.Names, strings.Repeat("a", i%40)+string(rune('b'+i%20)))
	}
	slices.Sort(wide.Names)
	dfa.Same(wide, a)
	dfa.Same(a, wide)
	dfa.Within(wide, a)
	dfa.Within(a, wide)
	dfa.Has(wide, wide.Names)
	dfa.Step(wide, 0, "b")
}

func TestP1LongRows(t *testing.T) {
	const long = 1 << 20
	all := slices.Repeat([]string{"a"}, long)
	last := append(slices.Clone(all), "b")
	for s, want := range map[string][2]bool{
		"a*":                                     {true, false},
		"a* b":                                   {false, true},
		"(a a)*":                                 {true, false},
		"(a a a)* b":                             {false, false},
		"(a|b)* a (a|b) (a|b) (a|b) (a|b) (a|b)": {true, true},
		"()":                                     {false, false},
	} {
		d := of(t, s)
		if got := [2]bool{dfa.Has(d, all), dfa.Has(d, last)}; got != want {
			t.Error(s, got)
		}
	}
	if dfa.Has(of(t, "a*"), []string{strings.Repeat("a", long)}) || dfa.Step(of(t, "a*"), 0, strings.Repeat("a", long)) != -1 {
		t.Error("a long name")
	}
}

// TestP2Nothing: where nothing is told, all is empty.
func TestP2Nothing(t *testing.T) {
	d, f := dfa.Of(expr.Expr{Op: expr.Seq, Kids: list{name("a")}})
	if f != api.ErrForm || !reflect.DeepEqual(d, dfa.Dfa{}) {
		t.Error(f, shown(d))
	}
	if row, apart := dfa.Apart(of(t, "a a*"), of(t, "a+")); apart || len(row) != 0 {
		t.Error(row, apart)
	}
}

// full is an expression, a Dfa and a row, each with something behind the length of its lists.
func full(t *testing.T) (expr.Expr, dfa.Dfa, []string) {
	e := op(expr.Seq, name("a"), op(expr.Star, name("b")), name("behind"))
	e.Kids = e.Kids[:2]
	d := of(t, "a b*")
	d.Names = append(d.Names, "behind")[:2]
	d.Final = append(d.Final, true)[:2]
	d.Next = append(d.Next, []int{0, 0})[:2]
	for i, row := range d.Next {
		d.Next[i] = append(row, 0)[:2]
	}
	return e, d, []string{"a", "b", "behind"}[:2]
}

// TestP3NothingIsWrittenInto: what is handed in stays as it was, and what is behind it is not read.
func TestP3NothingIsWrittenInto(t *testing.T) {
	e, d, row := full(t)
	told, f := dfa.Of(e)
	if f != api.OK || shown(told) != "[a b] [[1 -1] [-1 1]] [false true]" {
		t.Error(f, shown(told))
	}
	if !dfa.Has(d, row) || dfa.Has(d, row[:3]) || dfa.Step(d, 0, "behind") != -1 || dfa.Step(d, 2, "a") != -1 {
		t.Error("behind the lists")
	}
	for _, s := range []string{"a b*", "a", "a b+|a", "c", "behind", "(a|b)*", "a b* behind"} {
		other := of(t, s)
		dfa.Same(d, other)
		dfa.Same(other, d)
		dfa.Within(d, other)
		dfa.Within(other, d)
		dfa.Apart(other, d)
		if row, apart := dfa.Apart(d, other); apart == slices.Contains([]string{"a b*", "a b+|a"}, s) {
			t.Error(s, row, apart)
		}
	}
	wasE, wasD, wasRow := full(t)
	if !reflect.DeepEqual(e.Kids[:3], wasE.Kids[:3]) || !slices.Equal(row[:3], wasRow[:3]) ||
		!slices.Equal(d.Names[:3], wasD.Names[:3]) || !slices.Equal(d.Final[:3], wasD.Final[:3]) || !reflect.DeepEqual(d.Next[:3], wasD.Next[:3]) ||
		!slices.Equal(d.Next[0][:3], wasD.Next[0][:3]) || !slices.Equal(d.Next[1][:3], wasD.Next[1][:3]) {
		t.Error(e, shown(d), row)
	}
}

// spoil writes into each list of a Dfa, and behind it.
func spoil(d dfa.Dfa) {
	for _, row := range d.Next {
		_ = append(row, 7, 7, 7, 7, 7, 7)
		for i := range row {
			row[i] = 7
		}
	}
	_ = append(d.Names, "spoilt", "spoilt", "spoilt")
	_ = append(d.Final, true, true, true)
	_ = append(d.Next, nil, nil, nil)
	for i := range d.Names {
		d.Names[i] = "spoilt"
	}
	for i := range d.Final {
		d.Final[i] = !d.Final[i]
	}
}

// TestP3AnswersAreNew: what is done with one answer is not seen in another one, nor in what was handed in.
func TestP3AnswersAreNew(t *testing.T) {
	e := parsed(t, "(a b|c)* d")
	first, _ := dfa.Of(e)
	again, _ := dfa.Of(e)
	want := shown(first)
	spoil(first)
	if third, _ := dfa.Of(e); shown(again) != want || shown(third) != want {
		t.Error(shown(again), shown(third))
	}
	if s, f := expr.Print(e); s != "(a b|c)* d" || f != api.OK {
		t.Error(s, f)
	}
	a, b := of(t, "a b c"), of(t, "a b d")
	row, _ := dfa.Apart(a, b)
	row[0], row[1], row[2] = "spoilt", "spoilt", "spoilt"
	_ = append(row, "spoilt", "spoilt")
	if row, _ := dfa.Apart(a, b); strings.Join(row, " ") != "a b c" || shown(a) != shown(of(t, "a b c")) || shown(b) != shown(of(t, "a b d")) {
		t.Error(row, shown(a), shown(b))
	}
}

// TestP3NoTwoListsShare: each row of an answer is a list by itself.
func TestP3NoTwoListsShare(t *testing.T) {
	d := of(t, "(a b|c)* d (a|d)+")
	for i := range d.Next {
		want := shown(dfa.Dfa{Names: d.Names, Next: slices.Delete(slices.Clone(d.Next), i, i+1), Final: d.Final})
		spoil(dfa.Dfa{Next: d.Next[i : i+1 : i+1]})
		if got := shown(dfa.Dfa{Names: d.Names, Next: slices.Delete(slices.Clone(d.Next), i, i+1), Final: d.Final}); got != want {
			t.Errorf("%d: %s, not %s", i, got, want)
		}
	}
}

// TestP3NothingIsKept: what was told stays, whatever becomes of what was handed in.
func TestP3NothingIsKept(t *testing.T) {
	e := parsed(t, "a b*")
	d, _ := dfa.Of(e)
	e.Kids[0], e.Kids[1].Kids[0] = name("c"), name("c")
	if shown(d) != "[a b] [[1 -1] [-1 1]] [false true]" {
		t.Error(shown(d))
	}
	a, b := of(t, "a b*"), of(t, "a b+")
	row, _ := dfa.Apart(a, b)
	spoil(a)
	spoil(b)
	if !slices.Equal(row, []string{"a"}) {
		t.Error(row)
	}
}

// TestP4TheSameAgain: also where many ask at once.
func TestP4TheSameAgain(t *testing.T) {
	e := parsed(t, "(a|b|text)* (c|d e)? (f|g h|i)+")
	first, _ := dfa.Of(e)
	want, other := shown(first), of(t, "(a|b|text)* (c|d e)? (f|g h|i)* i")
	var all sync.WaitGroup
	for range 8 {
		all.Go(func() {
			for range 20 {
				d, f := dfa.Of(e)
				row, apart := dfa.Apart(first, other)
				if shown(d) != want || f != api.OK || !apart || !slices.Equal(row, []string{"f"}) || !dfa.Within(other, d) || dfa.Within(d, other) {
					t.Error(shown(d), f, row, apart)
				}
			}
		})
	}
	all.Wait()
}
