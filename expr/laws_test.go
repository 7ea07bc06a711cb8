package expr_test

import (
	"math/rand/v2"
	"slices"
	"strings"
	"testing"

	"diptych/api"
	"diptych/expr"
)

// maker makes all right expressions of a number of expressions, with how they are written, by the words of the document.
type maker struct {
	names []string
	made  map[int][]pair
}

func newMaker(names ...string) *maker { return &maker{names, map[int][]pair{}} }

// upTo are all of up to that many.
func (m *maker) upTo(most int) []pair {
	var all []pair
	for n := range most {
		all = append(all, m.of(n+1)...)
	}
	return all
}

func (m *maker) of(n int) []pair {
	if l, ok := m.made[n]; ok {
		return l
	}
	var all []pair
	if n == 1 {
		all = append(all, pair{seq(), "()"})
		for _, s := range m.names {
			all = append(all, pair{name(s), s})
		}
	} else {
		for _, p := range m.of(n - 1) {
			if !strings.ContainsRune("*+?", rune(p.e.Op)) {
				s := bracketed(p)
				all = append(all, pair{star(p.e), s + "*"}, pair{plus(p.e), s + "+"}, pair{opt(p.e), s + "?"})
			}
		}
		for _, l := range m.rows(n-1, expr.Seq) {
			all = append(all, together(expr.Seq, " ", l))
		}
		for _, l := range m.rows(n-1, expr.Alt) {
			all = append(all, together(expr.Alt, "|", l))
		}
	}
	m.made[n] = all
	return all
}

// rows are the lists of two or more, n in all, none of them with that Op.
func (m *maker) rows(n int, not byte) [][]pair {
	var all [][]pair
	for first := 1; first < n; first++ {
		for _, p := range m.of(first) {
			if p.e.Op == not {
				continue
			}
			for _, q := range m.of(n - first) {
				if q.e.Op != not {
					all = append(all, []pair{p, q})
				}
			}
			for _, rest := range m.rows(n-first, not) {
				all = append(all, slices.Concat([]pair{p}, rest))
			}
		}
	}
	return all
}

func together(op byte, between string, l []pair) pair {
	var kids list
	var parts []string
	for _, p := range l {
		kids = append(kids, p.e)
		if op == expr.Seq {
			p.s = bracketed(p)
		}
		parts = append(parts, p.s)
	}
	return pair{of(op, kids...), strings.Join(parts, between)}
}

func bracketed(p pair) string {
	if p.e.Op == expr.Alt || p.e.Op == expr.Seq && p.s != "()" {
		return "(" + p.s + ")"
	}
	return p.s
}

// some is a right expression of just that many, by chance, with none of these Ops; if there is none, something in it is the Expr of nothing.
func (m *maker) some(r *rand.Rand, n int, not string) expr.Expr {
	ops := "nns"
	if n == 2 {
		ops = "*+?"
	} else if n > 2 {
		ops = "*+?sssaaa"
	}
	ops = strings.Map(func(op rune) rune {
		if strings.ContainsRune(not, op) {
			return -1
		}
		return op
	}, ops)
	if ops == "" {
		return expr.Expr{}
	}
	switch op := ops[r.IntN(len(ops))]; {
	case op == expr.Name:
		return name(m.names[r.IntN(len(m.names))])
	case n == 1:
		return seq()
	case op == expr.Seq || op == expr.Alt:
		return of(op, m.parts(r, n-1, string(rune(op)))...)
	default:
		return of(op, m.some(r, n-1, "*+?"))
	}
}

// parts are two or more of n in all.
func (m *maker) parts(r *rand.Rand, n int, not string) list {
	first := 1 + r.IntN(n-1)
	e := m.some(r, first, not)
	if rest := n - first; rest == 1 || r.IntN(3) == 0 {
		return list{e, m.some(r, rest, not)}
	}
	return append(list{e}, m.parts(r, n-first, not)...)
}

func whole(e expr.Expr) bool {
	return e.Op != 0 && !slices.ContainsFunc(e.Kids, func(k expr.Expr) bool { return !whole(k) })
}

// chance makes many right expressions, up to 24 in each.
func chance(times int) list {
	r := rand.New(rand.NewPCG(6, 24))
	m := newMaker("a", "b", "text")
	var l list
	for len(l) < times {
		if e := m.some(r, 1+r.IntN(24), ""); whole(e) {
			l = append(l, e)
		}
	}
	return l
}

func TestE1ExpressionsOfAll(t *testing.T) {
	for _, p := range newMaker("a", "text").upTo(6) {
		if !expr.Right(p.e) {
			t.Fatalf("%q is not right", p.s)
		}
		if s, f := expr.Print(p.e); s != p.s || f != api.OK {
			t.Fatalf("%q is written %q, %d", p.s, s, f)
		}
	}
}

// texts goes through all texts of these letters, up to a length.
func texts(letters string, most int, tell func(string)) {
	var next func(s string, left int)
	next = func(s string, left int) {
		tell(s)
		for i := 0; i < len(letters) && left > 0; i++ {
			next(s+letters[i:i+1], left-1)
		}
	}
	next("", most)
}

// TestE1ParseOfAllTexts: an expression is no longer than its text, so that all that are written in so many letters are known.
func TestE1ParseOfAllTexts(t *testing.T) {
	const most = 6
	want := map[string]expr.Expr{}
	for _, p := range newMaker("a", "aa", "aaa", "aaaa", "aaaaa", "aaaaaa").upTo(most) {
		if len(p.s) > most {
			continue
		}
		if _, ok := want[p.s]; ok {
			t.Fatalf("%q is written twice", p.s)
		}
		want[p.s] = p.e
	}
	texts("a|*+? ()", most, func(s string) {
		e, f := expr.Parse(s)
		if w, ok := want[s]; ok && (f != api.OK || !same(e, w)) || !ok && (f != api.ErrForm || !none(e)) {
			t.Fatalf("%q is %q, %d", s, e, f)
		}
	})
}

// exprs are all Exprs, right or not, of that many in one.
func exprs(n int) list {
	var all list
	for _, kids := range exprLists(n - 1) {
		for _, op := range []byte("nsa*+?x") {
			all = append(all, expr.Expr{Op: op, Kids: kids}, expr.Expr{Op: op, Name: "a", Kids: kids})
		}
	}
	return all
}

func exprLists(n int) []list {
	if n == 0 {
		return []list{nil}
	}
	var all []list
	for first := range n {
		rests := exprLists(n - 1 - first)
		for _, e := range exprs(first + 1) {
			for _, rest := range rests {
				all = append(all, slices.Concat(list{e}, rest))
			}
		}
	}
	return all
}

func TestE1RightOfAll(t *testing.T) {
	right := map[string]bool{}
	for _, p := range newMaker("a").upTo(4) {
		right[shown(p.e)] = true
	}
	for n := range 4 {
		for _, e := range exprs(n + 1) {
			if got := expr.Right(e); got != right[shown(e)] {
				t.Fatalf("%q: %t", e, got)
			}
		}
	}
}

// shown tells all of an Expr.
func shown(e expr.Expr) string {
	s := string(rune(e.Op)) + "<" + e.Name + ">["
	for _, k := range e.Kids {
		s += shown(k)
	}
	return s + "]"
}

// ends tells how far along word one may come by rows of e, from where one is.
func ends(e expr.Expr, word []string, from []bool) []bool {
	to := make([]bool, len(from))
	switch e.Op {
	case expr.Name:
		for i, w := range word {
			to[i+1] = from[i] && w == e.Name
		}
	case expr.Seq:
		to = from
		for _, k := range e.Kids {
			to = ends(k, word, to)
		}
	case expr.Alt:
		for _, k := range e.Kids {
			to = either(to, ends(k, word, from))
		}
	case expr.Opt:
		to = either(from, ends(e.Kids[0], word, from))
	case expr.Star:
		to = from
		for range word {
			to = either(to, ends(e.Kids[0], word, to))
		}
	case expr.Plus:
		to = ends(of(expr.Star, e.Kids[0]), word, ends(e.Kids[0], word, from))
	}
	return to
}

func either(a, b []bool) []bool {
	out := slices.Clone(a)
	for i := range b {
		out[i] = out[i] || b[i]
	}
	return out
}

func means(e expr.Expr, word []string) bool {
	from := make([]bool, len(word)+1)
	from[0] = true
	return ends(e, word, from)[len(word)]
}

// words are all rows of these names, up to a length.
func words(names []string, most int) [][]string {
	all := [][]string{nil}
	for begin := 0; most > 0; most-- {
		end := len(all)
		for ; begin < end; begin++ {
			for _, s := range names {
				all = append(all, slices.Concat(all[begin], []string{s}))
			}
		}
	}
	return all
}

func TestE2HasOfAll(t *testing.T) {
	l := words([]string{"a", "b", "c"}, 4)
	for _, p := range newMaker("a", "b").upTo(5) {
		for _, w := range l {
			if got := expr.Has(p.e, w); got != means(p.e, w) {
				t.Fatalf("%q has %q: %t", p.s, w, got)
			}
		}
	}
}

func TestE2HasOfLarge(t *testing.T) {
	r := rand.New(rand.NewPCG(1, 6))
	yes := 0
	for _, e := range chance(3000) {
		for range 20 {
			w := make([]string, r.IntN(9))
			for i := range w {
				w[i] = []string{"a", "b", "text"}[r.IntN(3)]
			}
			got := expr.Has(e, w)
			if got != means(e, w) {
				t.Fatalf("%q has %q: %t", e, w, got)
			}
			if got && len(w) > 2 {
				yes++
			}
		}
	}
	if yes < 1000 {
		t.Error("few rows that are meant:", yes)
	}
}

func TestE2NamesOfAll(t *testing.T) {
	for _, p := range newMaker("b", "a", "ab").upTo(5) {
		want := strings.FieldsFunc(p.s, func(r rune) bool { return r < 'a' || r > 'z' })
		slices.Sort(want)
		if got := expr.Names(p.e); !slices.Equal(got, slices.Compact(want)) {
			t.Fatalf("%q: %q", p.s, got)
		}
	}
}

func TestE3ParseOfPrint(t *testing.T) {
	all := chance(3000)
	for _, p := range newMaker("a", "text").upTo(5) {
		all = append(all, p.e)
	}
	for _, e := range all {
		s, f := expr.Print(e)
		if again, g := expr.Parse(s); f != api.OK || g != api.OK || !same(again, e) {
			t.Fatalf("%q, %d: %q, %d", s, f, again, g)
		}
	}
}

// TestE3Renamed: a row with to in it was meant with from there; one with from in it is meant no longer.
func TestE3Renamed(t *testing.T) {
	l := words([]string{"a", "b", "c"}, 3)
	for _, p := range newMaker("a", "b").upTo(5) {
		e := expr.Rename(p.e, "a", "c")
		for _, w := range l {
			want := false
			if !slices.Contains(w, "a") {
				was := slices.Clone(w)
				for i := range was {
					if was[i] == "c" {
						was[i] = "a"
					}
				}
				want = expr.Has(p.e, was)
			}
			if expr.Has(e, w) != want {
				t.Fatalf("%q with c for a: %q is not %t", p.s, w, want)
			}
		}
	}
}

// TestE3RenamedText: as written, a renamed expression is what it was, with the other name.
func TestE3RenamedText(t *testing.T) {
	for _, p := range newMaker("a", "b").upTo(5) {
		want := strings.ReplaceAll(p.s, "a", "text")
		if s, f := expr.Print(expr.Rename(p.e, "a", "text")); s != want || f != api.OK {
			t.Fatalf("%q with text for a: %q", p.s, s)
		}
		if back := expr.Rename(expr.Rename(p.e, "a", "text"), "text", "a"); !same(back, p.e) {
			t.Fatalf("%q and back: %q", p.s, back)
		}
	}
}
