package dfa_test

import (
	"math/rand/v2"
	"reflect"
	"slices"
	"testing"

	"diptych/api"
	"diptych/dfa"
	"diptych/expr"
)

// exprs are all right expressions of that many in one, over these names.
func exprs(n int, names ...string) list {
	var all list
	for _, e := range anyExprs(n, names) {
		if expr.Right(e) {
			all = append(all, e)
		}
	}
	return all
}

func upTo(n int, names ...string) list {
	var all list
	for i := range n {
		all = append(all, exprs(i+1, names...)...)
	}
	return all
}

func anyExprs(n int, names []string) list {
	var all list
	if n == 1 {
		for _, s := range names {
			all = append(all, name(s))
		}
	}
	for _, kids := range exprLists(n-1, names) {
		for _, o := range []byte("sa*+?") {
			all = append(all, op(o, kids...))
		}
	}
	return all
}

func exprLists(n int, names []string) []list {
	if n == 0 {
		return []list{nil}
	}
	var all []list
	for first := range n {
		rests := exprLists(n-1-first, names)
		for _, e := range exprs(first+1, names...) {
			for _, rest := range rests {
				all = append(all, slices.Concat(list{e}, rest))
			}
		}
	}
	return all
}

// some is an expression of just n, by chance; now and then it is not right.
func some(r *rand.Rand, n int, names []string) expr.Expr {
	switch {
	case n == 1 && r.IntN(12) > 0:
		return name(names[r.IntN(len(names))])
	case n == 1:
		return op(expr.Seq)
	case n == 2 || r.IntN(4) == 0:
		return op([]byte("*+?")[r.IntN(3)], some(r, n-1, names))
	}
	var kids list
	for left := n - 1; left > 0; {
		take := 1 + r.IntN(left)
		if len(kids) == 0 {
			take = 1 + r.IntN(left-1)
		}
		if r.IntN(2) == 0 {
			take = min(take, 1+r.IntN(3))
		}
		kids = append(kids, some(r, take, names))
		left -= take
	}
	return op([]byte("sa")[r.IntN(2)], kids...)
}

// chance makes that many right expressions, of up to most in each.
func chance(seed uint64, times, most int, names ...string) list {
	r := rand.New(rand.NewPCG(seed, 7))
	var l list
	for len(l) < times {
		if e := some(r, 1+r.IntN(most), names); expr.Right(e) {
			l = append(l, e)
		}
	}
	return l
}

// words are all rows of these names, up to a length: the shorter ones first, these in order.
func words(names []string, most int) [][]string {
	all := [][]string{nil}
	for begin := 0; most > 0; most-- {
		end := len(all)
		for ; begin < end; begin++ {
			for _, s := range names {
				all = append(all, slices.Concat(all[begin], []string{s}))
			}
		}
	}
	return all
}

func made(t *testing.T, e expr.Expr) dfa.Dfa {
	t.Helper()
	d, f := dfa.Of(e)
	if f != api.OK {
		t.Fatalf("%q: %d", e, f)
	}
	return d
}

// checkFormed: a row and a bool for each state, names and states that there are.
func checkFormed(t *testing.T, e expr.Expr, d dfa.Dfa) {
	t.Helper()
	if !slices.Equal(d.Names, expr.Names(e)) || len(d.Next) == 0 || len(d.Final) != len(d.Next) {
		t.Fatalf("%q: %s", e, shown(d))
	}
	for _, row := range d.Next {
		if len(row) != len(d.Names) || slices.ContainsFunc(row, func(to int) bool { return to < -1 || to >= len(d.Next) }) {
			t.Fatalf("%q: %s", e, shown(d))
		}
	}
}

// checkNumbers: each state is met, and numbered as it is met.
func checkNumbers(t *testing.T, e expr.Expr, d dfa.Dfa) {
	t.Helper()
	met := 1
	for state, row := range d.Next {
		if state >= met {
			t.Fatalf("%q: state %d is not met: %s", e, state, shown(d))
		}
		for _, to := range row {
			if to > met {
				t.Fatalf("%q: state %d ahead of %d: %s", e, to, met, shown(d))
			}
			if to == met {
				met++
			}
		}
	}
	if met != len(d.Next) {
		t.Fatalf("%q: %d states of %s are met", e, met, shown(d))
	}
}

// apartAt tells of each two states (and of none, which is the last one) whether a row tells them apart: worked out from the ends of rows backwards.
func apartAt(d dfa.Dfa) [][]bool {
	none := len(d.Next)
	to := func(state, column int) int {
		if state == none || d.Next[state][column] < 0 {
			return none
		}
		return d.Next[state][column]
	}
	ends := func(state int) bool { return state < none && d.Final[state] }
	apart := make([][]bool, none+1)
	for p := range apart {
		apart[p] = make([]bool, none+1)
		for q := range apart[p] {
			apart[p][q] = ends(p) != ends(q)
		}
	}
	for more := true; more; {
		more = false
		for p := range apart {
			for q := range p {
				for column := range d.Names {
					if !apart[p][q] && apart[to(p, column)][to(q, column)] {
						apart[p][q], apart[q][p], more = true, true, true
					}
				}
			}
		}
	}
	return apart
}

// checkLeast: no two states mean the same, and none of them means no row.
func checkLeast(t *testing.T, e expr.Expr, d dfa.Dfa) {
	t.Helper()
	for p, row := range apartAt(d) {
		for q, apart := range row {
			if p != q && !apart {
				t.Fatalf("%q: states %d and %d of %s", e, p, q, shown(d))
			}
		}
	}
}

func checkAll(t *testing.T, e expr.Expr) dfa.Dfa {
	t.Helper()
	d := made(t, e)
	checkFormed(t, e, d)
	checkNumbers(t, e, d)
	checkLeast(t, e, d)
	return d
}

func TestD1OfAll(t *testing.T) {
	l := words([]string{"a", "b", "c"}, 4)
	for _, e := range upTo(6, "a", "b") {
		d := checkAll(t, e)
		for _, w := range l {
			if got := dfa.Has(d, w); got != expr.Has(e, w) {
				t.Fatalf("%q has %q: %t", e, w, got)
			}
		}
	}
}

// walk makes a row by chance, mostly along d.
func walk(r *rand.Rand, d dfa.Dfa) []string {
	var w []string
	state := 0
	for range r.IntN(40) {
		s := "c"
		if len(d.Names) > 0 {
			s = d.Names[r.IntN(len(d.Names))]
		}
		if to := dfa.Step(d, state, s); to >= 0 || r.IntN(30) == 0 {
			w = append(w, s)
			state = to
		}
	}
	return w
}

func TestD1OfLarge(t *testing.T) {
	r := rand.New(rand.NewPCG(7, 1))
	yes := 0
	for _, e := range slices.Concat(chance(1, 1500, 24, "a", "b"), chance(2, 1500, 24, "a", "b", "c", "text"), chance(3, 500, 24, "a")) {
		d := checkAll(t, e)
		for range 20 {
			w := walk(r, d)
			got := dfa.Has(d, w)
			if got != expr.Has(e, w) {
				t.Fatalf("%q has %q: %t", e, w, got)
			}
			if got && len(w) > 5 {
				yes++
			}
		}
	}
	if yes < 1000 {
		t.Error("few rows that are meant:", yes)
	}
}

// TestD1OfHard: expressions that have very many states.
func TestD1OfHard(t *testing.T) {
	r := rand.New(rand.NewPCG(7, 2))
	for _, s := range []string{
		"(a|b)* a (a|b) (a|b) (a|b) (a|b) (a|b)",
		"(a a a a a)*|(a a a)*|(a a a a)*",
		"(a a a b? a b? a a a a (a|b)? a a a b? a)+",
		"(a a a a (a|b) a a a a a (a?|b) a (a|b) a a)+",
		"(a? b b b b b a? b b? a* b b b b a? b b)+",
	} {
		e := parsed(t, s)
		d := checkAll(t, e)
		for range 2000 {
			if w := walk(r, d); dfa.Has(d, w) != expr.Has(e, w) {
				t.Fatalf("%s has %q: %t", s, w, dfa.Has(d, w))
			}
		}
	}
}

func TestD1StepOfAll(t *testing.T) {
	for _, e := range append(upTo(4, "a", "b"), chance(4, 300, 24, "a", "b", "c")...) {
		d := made(t, e)
		for state := -2; state < len(d.Next)+2; state++ {
			for _, s := range []string{"a", "b", "c", "d", ""} {
				want := -1
				if i := slices.Index(d.Names, s); i >= 0 && state >= 0 && state < len(d.Next) {
					want = d.Next[state][i]
				}
				if got := dfa.Step(d, state, s); got != want {
					t.Fatalf("%s: %d, %q: %d", shown(d), state, s, got)
				}
			}
		}
	}
}

// held is a Dfa, and a bit for each of some words: is it meant?
type held struct {
	e    expr.Expr
	d    dfa.Dfa
	bits []bool
}

func holdAll(t *testing.T, l list, rows [][]string) []held {
	var all []held
	for _, e := range l {
		h := held{e, made(t, e), nil}
		for _, w := range rows {
			h.bits = append(h.bits, expr.Has(e, w))
		}
		all = append(all, h)
	}
	return all
}

// checkPair holds what is told of two against the rows: the first one that only one of them means is the least one.
func checkPair(t *testing.T, p, q held, rows [][]string) {
	t.Helper()
	within, first := true, -1
	for i, in := range p.bits {
		within = within && (!in || q.bits[i])
		if first < 0 && in != q.bits[i] {
			first = i
		}
	}
	row, apart := dfa.Apart(p.d, q.d)
	if apart != (first >= 0) || apart && !slices.Equal(row, rows[first]) || !apart && len(row) != 0 {
		t.Fatalf("%q, %q: apart %q, %t", p.e, q.e, row, apart)
	}
	if got := dfa.Same(p.d, q.d); got == apart {
		t.Fatalf("%q, %q: same %t", p.e, q.e, got)
	}
	if got := dfa.Within(p.d, q.d); got != within {
		t.Fatalf("%q, %q: within %t", p.e, q.e, got)
	}
}

// TestD2OfAll: two that have no more than 5 and 4 states are told apart by a row of no more than 8, if by any.
func TestD2OfAll(t *testing.T) {
	rows := words([]string{"a", "b"}, 8)
	all := holdAll(t, upTo(5, "a", "b"), rows)
	for _, p := range all {
		for _, q := range all[:len(upTo(4, "a", "b"))] {
			if len(p.d.Next) > 5 || len(q.d.Next) > 4 {
				t.Fatal(shown(p.d), shown(q.d))
			}
			checkPair(t, p, q, rows)
			checkPair(t, q, p, rows)
		}
	}
}

// TestD2OfOtherNames: names that only one of them has.
func TestD2OfOtherNames(t *testing.T) {
	rows := words([]string{"a", "b", "c"}, 5)
	ones, others := holdAll(t, upTo(3, "a", "c"), rows), holdAll(t, upTo(3, "b", "c"), rows)
	for _, p := range ones {
		for _, q := range others {
			checkPair(t, p, q, rows)
			checkPair(t, q, p, rows)
		}
	}
}

type states struct{ p, q int }

// plainApart goes along all pairs of states, without leaving out any; and tells whether all rows of a are rows of b.
func plainApart(a, b dfa.Dfa) (row []string, apart, within bool) {
	names := slices.Concat(a.Names, b.Names)
	slices.Sort(names)
	names = slices.Compact(names)
	ends := func(d dfa.Dfa, state int) bool { return state >= 0 && d.Final[state] }
	ways := map[states][]string{{0, 0}: nil}
	queue := []states{{0, 0}}
	within = true
	for len(queue) > 0 {
		at := queue[0]
		queue = queue[1:]
		in, out := ends(a, at.p), ends(b, at.q)
		if in != out && !apart {
			row, apart = ways[at], true
		}
		within = within && (!in || out)
		for _, s := range names {
			to := states{dfa.Step(a, at.p, s), dfa.Step(b, at.q, s)}
			if _, ok := ways[to]; !ok {
				ways[to] = slices.Concat(ways[at], []string{s})
				queue = append(queue, to)
			}
		}
	}
	return row, apart, within
}

func checkPlain(t *testing.T, e, f expr.Expr) (length int, same, inside bool) {
	t.Helper()
	a, b := made(t, e), made(t, f)
	want, wantApart, within := plainApart(a, b)
	row, apart := dfa.Apart(a, b)
	if apart != wantApart || !slices.Equal(row, want) || dfa.Same(a, b) == apart || dfa.Within(a, b) != within {
		t.Fatalf("%q, %q: apart %q, %t, same %t, within %t", e, f, row, apart, dfa.Same(a, b), dfa.Within(a, b))
	}
	if apart && expr.Has(e, row) == expr.Has(f, row) {
		t.Fatalf("%q, %q: apart %q", e, f, row)
	}
	return len(row), !apart, within
}

// near is e with something in it changed, by chance.
func near(r *rand.Rand, e expr.Expr, names []string) expr.Expr {
	e = expr.Rename(e, "", "")
	at := &e
	for len(at.Kids) > 0 && r.IntN(5) > 0 {
		at = &at.Kids[r.IntN(len(at.Kids))]
	}
	switch r.IntN(4) {
	case 0:
		*at = name(names[r.IntN(len(names))])
	case 1:
		*at = op([]byte("*+?")[r.IntN(3)], *at)
	case 2:
		*at = op(expr.Alt, *at, some(r, 1+r.IntN(3), names))
	default:
		*at = some(r, 1+r.IntN(5), names)
	}
	return e
}

func TestD2OfLarge(t *testing.T) {
	r := rand.New(rand.NewPCG(7, 3))
	long, same, inside := 0, 0, 0
	for _, names := range [][]string{{"a"}, {"a", "b"}, {"a", "b", "c"}} {
		for _, e := range chance(uint64(5+len(names)), 3000, 24, names...) {
			f := near(r, e, names)
			for !expr.Right(f) {
				f = near(r, e, names)
			}
			length, one, in := checkPlain(t, e, f)
			if length > 6 {
				long++
			}
			if one {
				same++
			} else if in {
				inside++
			}
		}
	}
	if long < 20 || same < 300 || inside < 300 {
		t.Error("few of a kind:", long, same, inside)
	}
}

// TestD2OfHard: pairs that have very many states.
func TestD2OfHard(t *testing.T) {
	l := []string{
		"(a|b)* a (a|b) (a|b) (a|b) (a|b) (a|b)",
		"(a|b)* b (a|b) (a|b) (a|b) (a|b) (a|b)",
		"(a|b)* a (a|b) (a|b) (a|b) (a|b)",
		"(a a a a a)*|(a a a)*|(a a a a)*",
		"(a a a b? a b? a a a a (a|b)? a a a b? a)+",
		"(a a a b? a b? a a a a (a|b) a a a b? a)+",
		"(a a a a (a|b) a a a a a (a?|b) a (a|b) a a)+",
		"(a|b)*",
	}
	for _, s := range l {
		for _, u := range l {
			checkPlain(t, parsed(t, s), parsed(t, u))
		}
	}
}

// choices are the alternatives of which e is made up.
func choices(e expr.Expr) list {
	if e.Op == expr.Alt {
		return e.Kids
	}
	return list{e}
}

// TestD2Either: a is within b just where either of both is b.
func TestD2Either(t *testing.T) {
	all := append(upTo(3, "a", "b"), chance(10, 150, 11, "a", "b")...)
	inside := 0
	for _, e := range all {
		for _, f := range all {
			either := op(expr.Alt, slices.Concat(choices(e), choices(f))...)
			a, b := made(t, e), made(t, f)
			got := dfa.Within(a, b)
			if got != dfa.Same(made(t, either), b) {
				t.Fatalf("%q, %q: within %t", e, f, got)
			}
			if got {
				inside++
			}
		}
	}
	if inside < 1000 {
		t.Error("few within others:", inside, len(all))
	}
}

// TestD3OfAll: over the same names the least ones are one just where the same rows are meant.
func TestD3OfAll(t *testing.T) {
	all := upTo(4, "a", "b")
	var l []dfa.Dfa
	for _, e := range all {
		l = append(l, made(t, e))
	}
	one := 0
	for i, a := range l {
		for _, b := range l[:i] {
			same := dfa.Same(a, b)
			if same != reflect.DeepEqual(a, b) {
				t.Fatalf("same %t: %s, %s", same, shown(a), shown(b))
			}
			if same {
				one++
			}
		}
	}
	if one < 500 {
		t.Error("few that are one:", one, len(l))
	}
}

// other is an expression that means the same, written otherwise.
func other(e expr.Expr) expr.Expr {
	kids := make(list, len(e.Kids))
	for i, k := range e.Kids {
		kids[i] = other(k)
	}
	switch e.Op {
	case expr.Alt:
		slices.Reverse(kids)
	case expr.Plus:
		if k := kids[0]; k.Op == expr.Name {
			return op(expr.Plus, op(expr.Alt, k, op(expr.Seq, k, k)))
		}
	case expr.Star:
		return op(expr.Opt, op(expr.Alt, kids[0], op(expr.Seq), op(expr.Plus, kids[0])))
	case expr.Opt:
		return op(expr.Opt, op(expr.Alt, kids[0], op(expr.Seq)))
	}
	return expr.Expr{Op: e.Op, Name: e.Name, Kids: kids}
}

func TestD3OfLarge(t *testing.T) {
	checked, changed := 0, 0
	for _, e := range chance(9, 6000, 16, "a", "b", "c") {
		f := other(e)
		if !expr.Right(f) {
			continue
		}
		a, b := made(t, e), made(t, f)
		if !reflect.DeepEqual(a, b) || !dfa.Same(a, b) || !dfa.Within(a, b) || !dfa.Within(b, a) {
			t.Fatalf("%q: %s, %q: %s", e, shown(a), f, shown(b))
		}
		checked++
		if !reflect.DeepEqual(e, f) {
			changed++
		}
	}
	if checked < 1000 || changed < 500 {
		t.Error("few of a kind:", checked, changed)
	}
}
