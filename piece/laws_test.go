package piece_test

import (
	"slices"
	"strings"
	"testing"

	"diptych/api"
	"diptych/node"
	"diptych/piece"
	"diptych/token"
)

// listsOf are all lists of up to that many nodes in all, out of these texts and of one kind.
func listsOf(texts list, most int) []list {
	lists := []list{nil}
	if most == 0 {
		return lists
	}
	for _, first := range texts {
		for _, rest := range listsOf(texts, most-1) {
			lists = append(lists, slices.Concat(list{first}, rest))
		}
	}
	for inner := range most {
		for _, kids := range listsOf(texts, inner) {
			if count(kids) < inner {
				continue
			}
			for _, rest := range listsOf(texts, most-1-inner) {
				lists = append(lists, slices.Concat(list{of("p", kids...)}, rest))
			}
		}
	}
	return lists
}

// count is how many nodes there are, without those that do not count.
func count(l list) int {
	all := len(l)
	for _, n := range l {
		if n.Kind != api.TextKind {
			all += count(n.Kids)
		}
	}
	return all
}

func anyTexts() list {
	return list{text("aé"), text("b", "b"), text(""), oddText("\xffc"), oddText("", "b")}
}

// documents are right ones, of up to that many nodes in all, but for the outermost.
func documents(most int) []api.Node {
	var right []api.Node
	for _, kids := range listsOf(list{text("aéa"), text("b", "b")}, most) {
		if n := of("doc", kids...); node.Right(n) {
			right = append(right, n)
		}
	}
	return right
}

// wantSplit is C1 by its words: each node by itself, by how many tokens are ahead of it.
func wantSplit(l list, at int) (ahead, behind list, e api.Errno) {
	if at < 0 || at > node.Total(l) {
		return nil, nil, api.ErrRange
	}
	for i, n := range l {
		begin, end := node.Total(l[:i]), node.Total(l[:i+1])
		switch {
		case end <= at:
			ahead = append(ahead, n)
		case begin >= at:
			behind = append(behind, n)
		case n.Kind != api.TextKind:
			return nil, nil, api.ErrSplit
		default:
			first, last := n, n
			first.Text, last.Text = "", ""
			for j, point := range strings.Split(n.Text, "") {
				if begin+j < at {
					first.Text += point
				} else {
					last.Text += point
				}
			}
			ahead, behind = append(ahead, first), append(behind, last)
		}
	}
	return ahead, behind, api.OK
}

func TestC1SplitOfAll(t *testing.T) {
	for _, l := range listsOf(anyTexts(), 4) {
		for at := -1; at <= node.Total(l)+1; at++ {
			ahead, behind, want := wantSplit(l, at)
			a, b, e := piece.Split(l, at)
			if e != want || !same(a, ahead) || !same(b, behind) {
				t.Fatalf("%q at %d: %q, %q, %d, not %q, %q, %d", l, at, a, b, e, ahead, behind, want)
			}
		}
	}
}

// TestC1SplitAndTogether: nothing is lost by a split, and the nodes ahead are as large as the position says.
func TestC1SplitAndTogether(t *testing.T) {
	for _, l := range listsOf(anyTexts(), 4) {
		for at := range node.Total(l) + 1 {
			ahead, behind, e := piece.Split(l, at)
			if e != api.OK {
				continue
			}
			if node.Total(ahead) != at || !same(node.Join(slices.Concat(ahead, behind)), node.Join(l)) {
				t.Fatalf("%q at %d: %q, %q", l, at, ahead, behind)
			}
		}
	}
}

// homes tells of each position of the document with these tokens the innermost node in which it is, by the number of the position where its kids begin.
func homes(tokens []token.Token) []int {
	found, around := []int{0}, []int{0}
	for i, next := range tokens {
		switch next.Kind {
		case token.Open:
			around = append(around, i+1)
		case token.Close:
			around = around[:len(around)-1]
		}
		found = append(found, around[len(around)-1])
	}
	return found
}

// wantPlaces is what C1 tells of two positions.
func wantPlaces(home []int, from, to int) api.Errno {
	switch {
	case from < 0 || from >= len(home) || to < 0 || to >= len(home) || to < from:
		return api.ErrRange
	case home[from] != home[to]:
		return api.ErrSplit
	}
	return api.OK
}

// TestC1CutAsTokens: what is cut out has the tokens that are between both positions.
func TestC1CutAsTokens(t *testing.T) {
	for _, n := range documents(4) {
		tokens := token.Of(n.Kids)
		home := homes(tokens)
		for from := -1; from <= len(tokens)+1; from++ {
			for to := -1; to <= len(tokens)+1; to++ {
				l, e := piece.Cut(n, from, to)
				if want := wantPlaces(home, from, to); e != want || e != api.OK && len(l) != 0 {
					t.Fatalf("%q, %d to %d: %q, %d, not %d", n, from, to, l, e, want)
				}
				if e != api.OK {
					continue
				}
				if want, _ := token.Build(tokens[from:to]); !same(l, want) {
					t.Fatalf("%q, %d to %d: %q", n, from, to, l)
				}
			}
		}
	}
}

// inserts are lists that can be put in, some of them not joined.
func inserts() []list {
	return []list{
		nil,
		{text("é")},
		{text("x", "b")},
		{text("x", "i")},
		{of("q")},
		{of("q", text("y")), text("z")},
		{text("x"), of("q", of("r")), text("y", "b")},
		{text(""), text("x"), text("y"), oddText("", "b"), text("z")},
		{oddText("x", "b"), text("y", "b"), text("z")},
	}
}

// TestC2PutAsTokens: a document with l put in has the tokens of l in the place of those between both positions.
func TestC2PutAsTokens(t *testing.T) {
	for _, n := range documents(3) {
		tokens := token.Of(n.Kids)
		home := homes(tokens)
		for _, l := range inserts() {
			for from := -1; from <= len(tokens)+1; from++ {
				for to := -1; to <= len(tokens)+1; to++ {
					m, e := piece.Put(n, from, to, l)
					if want := wantPlaces(home, from, to); e != want || e != api.OK && !none(m) {
						t.Fatalf("%q, %d to %d, %q: %q, %d, not %d", n, from, to, l, m, e, want)
					}
					if e != api.OK {
						continue
					}
					kids, _ := token.Build(slices.Concat(tokens[:from], token.Of(node.Join(l)), tokens[to:]))
					if !node.Same(m, of("doc", kids...)) || !node.Right(m) {
						t.Fatalf("%q, %d to %d, %q: %q", n, from, to, l, m)
					}
				}
			}
		}
	}
}

// TestC3CutAndPutAgain: what is cut out and put in again makes the same document, also if it was away in between.
func TestC3CutAndPutAgain(t *testing.T) {
	for _, n := range documents(4) {
		for from := range node.Total(n.Kids) + 1 {
			for to := from; to <= node.Total(n.Kids); to++ {
				l, e := piece.Cut(n, from, to)
				if e != api.OK {
					continue
				}
				checkPut(t, n, from, to, l, n)
				without, _ := piece.Put(n, from, to, nil)
				checkPut(t, without, from, from, l, n)
			}
		}
	}
}

// TestC3PutAndCutOut: what is put in is cut out there, joined.
func TestC3PutAndCutOut(t *testing.T) {
	for _, n := range documents(4) {
		for _, l := range inserts() {
			for from := range node.Total(n.Kids) + 1 {
				for to := from; to <= node.Total(n.Kids); to++ {
					m, e := piece.Put(n, from, to, l)
					if e != api.OK {
						continue
					}
					out, e := piece.Cut(m, from, from+node.Total(l))
					if e != api.OK || !same(out, node.Join(l)) {
						t.Fatalf("%q, %d to %d, %q: %q, %d", n, from, to, l, out, e)
					}
				}
			}
		}
	}
}

// TestDeepAndWide: as much nested, and as long, as the limits of the document allow for, ends without a panic, and soon.
func TestDeepAndWide(t *testing.T) {
	const nested = 1<<16 - 1
	deep := nest(text("a"), nested)
	n := of("doc", of("p", text("hi")))
	checkNoSplit(t, list{deep}, nested, api.ErrSplit)
	checkNoSplit(t, list{deep}, 2*nested+2, api.ErrRange)
	ahead, behind, e := piece.Split(list{deep, deep}, 2*nested+1)
	if e != api.OK || !same(ahead, list{deep}) || !same(behind, list{deep}) {
		t.Error("deep", len(ahead), len(behind), e)
	}
	if l, e := piece.Cut(deep, 0, 0); e != api.ErrForm || len(l) != 0 {
		t.Error("deep", e)
	}
	if m, e := piece.Put(n, 2, 2, list{deep}); e != api.ErrDeep || !none(m) {
		t.Error("deep", e)
	}
	if m, e := piece.Put(deep, 0, 0, list{deep}); e != api.ErrForm || !none(m) {
		t.Error("deep", e)
	}

	const many = 1 << 17
	wide := slices.Repeat(list{text("é"), of("p")}, many)
	ahead, behind, e = piece.Split(wide, 3*many-3)
	if e != api.OK || len(ahead) != 2*many-2 || len(behind) != 2 {
		t.Error("wide", len(ahead), len(behind), e)
	}
	long := strings.Repeat("é", many)
	ahead, behind, e = piece.Split(list{text(long)}, many-1)
	if e != api.OK || len(ahead) != 1 || ahead[0].Text != long[2:] || !same(behind, list{text("é")}) {
		t.Error("long", len(ahead), len(behind), e)
	}
	for _, l := range []list{wide, {text(long)}, slices.Repeat(list{text("é")}, many)} {
		if m, e := piece.Put(n, 2, 2, l); e != api.ErrLarge || !none(m) {
			t.Error("wide", e)
		}
	}
}

// full is a document whose lists have more behind their length, and kids likewise.
func full() (api.Node, list) {
	inner := of("p", text("hé"), text("!!", "b"), text("behind"))
	inner.Kids = inner.Kids[:2]
	inner.Kids[1].Marks = append(make([]string, 0, 2), "b")
	inner.Attrs = append(make([]api.Attr, 0, 2), api.Attr{Name: "a", Value: "1"})
	n := of("doc", of("q"), of("l", inner, text("behind")), text("behind"))
	n.Kids[1].Kids = n.Kids[1].Kids[:1]
	n.Kids = n.Kids[:2]
	l := list{node.Copy(inner), text("x"), text("yz", "b"), text("w", "b"), text("behind")}
	l[2].Marks = append(make([]string, 0, 2), "b")
	return n, l[:4]
}

// unchanged tells whether what full tells is still so, also behind the lengths.
func unchanged(n api.Node, l list) bool {
	m, k := full()
	return sameBehind(n, m) && sameBehind(of("x", l...), of("x", k...)) && same(l[:5], k[:5])
}

// sameBehind tells whether two nodes are the same, also what lies behind the lengths of their lists.
func sameBehind(a, b api.Node) bool {
	if !node.Same(a, b) || !slices.Equal(a.Marks[:cap(a.Marks)], b.Marks[:cap(b.Marks)]) || !slices.Equal(a.Attrs[:cap(a.Attrs)], b.Attrs[:cap(b.Attrs)]) {
		return false
	}
	return slices.EqualFunc(a.Kids[:cap(a.Kids)], b.Kids[:cap(b.Kids)], sameBehind)
}

func TestNothingIsWrittenInto(t *testing.T) {
	n, l := full()
	for from := -1; from <= node.Total(n.Kids)+1; from++ {
		piece.Split(n.Kids, from)
		piece.Split(l, from)
		for to := from - 1; to <= node.Total(n.Kids)+1; to++ {
			piece.Cut(n, from, to)
			piece.Put(n, from, to, l)
			piece.Put(n, from, to, n.Kids)
		}
	}
	if !unchanged(n, l) {
		t.Errorf("%q, %q", n, l)
	}
}

// spoil writes into each list of some nodes, and behind it.
func spoil(l list) {
	_ = append(l, of("spoilt"))
	for i, n := range l {
		_, _ = append(n.Marks, "behind"), append(n.Attrs, api.Attr{Name: "behind"})
		for j := range n.Marks {
			n.Marks[j] = "spoilt"
		}
		clear(n.Attrs)
		spoil(n.Kids)
		l[i] = of("spoilt")
	}
}

// answers are what the calls tell of these, at each position.
func answers(n api.Node, l list) []list {
	var all []list
	for from := range node.Total(n.Kids) + 1 {
		a, b, _ := piece.Split(n.Kids, from)
		c, d, _ := piece.Split(l, from)
		all = append(all, a, b, c, d)
		for to := from; to <= node.Total(n.Kids); to++ {
			cut, _ := piece.Cut(n, from, to)
			put, _ := piece.Put(n, from, to, l)
			all = append(all, cut, list{put})
		}
	}
	return all
}

func TestAnswersAreNew(t *testing.T) {
	n, l := full()
	for i, answer := range answers(n, l) {
		spoil(answer)
		if !unchanged(n, l) {
			t.Fatalf("%d: an answer shares lists with what was handed in: %q, %q", i, n, l)
		}
	}
	before := answers(n, l)
	var want []list
	for _, answer := range before {
		want = append(want, node.Copy(of("x", answer...)).Kids)
	}
	spoil(n.Kids)
	spoil(l)
	if !slices.EqualFunc(before, want, same) {
		t.Error("a later change is seen")
	}
}

// TestNoTwoListsShare: neither the halves of a text, nor nodes that were handed in twice, nor both answers of a split have a list in common.
func TestNoTwoListsShare(t *testing.T) {
	twin := of("p", text("a", "b"))
	odd := oddText("ab", "b")
	n := of("doc", twin, text("ab", "b"), twin)
	split := func(l list, at int) list {
		ahead, behind, _ := piece.Split(l, at)
		return slices.Concat(ahead, behind)
	}
	cut, _ := piece.Cut(n, 0, 8)
	put, _ := piece.Put(n, 4, 4, list{twin, twin})
	for i, all := range []list{split(list{odd}, 1), split(list{twin, odd, twin}, 4), split(list{odd, twin, twin}, 5), cut, put.Kids} {
		for j := range all {
			rest := all[j+1:]
			want := node.Copy(of("x", rest...)).Kids
			spoil(all[j : j+1 : j+1])
			if !same(rest, want) {
				t.Errorf("%d, %d: %q, not %q", i, j, rest, want)
			}
		}
	}
	ahead, behind, _ := piece.Split(list{text("ab"), text("c")}, 1)
	_ = append(ahead, text("spoilt"))
	if !same(behind, list{text("b"), text("c")}) {
		t.Errorf("%q", behind)
	}
}

// TestTheSameAgain asks the same twice, with other calls between.
func TestTheSameAgain(t *testing.T) {
	n, l := full()
	first := answers(n, l)
	answers(of("doc", of("p", text("other"))), list{of("other")})
	if !slices.EqualFunc(first, answers(n, l), same) {
		t.Error("another answer")
	}
}
