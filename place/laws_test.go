package place_test

import (
	"fmt"
	"slices"
	"testing"

	"diptych/api"
	"diptych/node"
	"diptych/place"
	"diptych/token"
)

// kidLists are all lists of up to that many nodes in all, of up to that depth: texts, empty ones and ones with kids among them.
func kidLists(most, depth int) [][]api.Node {
	lists := [][]api.Node{nil}
	if most == 0 {
		return lists
	}
	for _, first := range []api.Node{text("aé"), text("b", "b"), text(""), oddText("c")} {
		for _, rest := range kidLists(most-1, depth) {
			lists = append(lists, slices.Concat([]api.Node{first}, rest))
		}
	}
	for inner := 0; depth > 0 && inner < most; inner++ {
		for _, kids := range kidLists(inner, depth-1) {
			if count(kids) < inner {
				continue
			}
			for _, rest := range kidLists(most-1-inner, depth) {
				lists = append(lists, slices.Concat([]api.Node{of("p", kids...)}, rest))
			}
		}
	}
	return lists
}

// count is how many nodes there are, without those that do not count.
func count(l []api.Node) int {
	all := len(l)
	for _, n := range l {
		if n.Kind != api.TextKind {
			all += count(n.Kids)
		}
	}
	return all
}

const (
	most    = 4
	deepest = 3
)

// spotsOf are a node's spots by the words of the document, in the order of their positions.
func spotsOf(n api.Node, path []int) spots {
	var found spots
	for i, kid := range n.Kids {
		if kid.Kind == api.TextKind {
			for offset := range len([]rune(kid.Text)) {
				found = append(found, at(i, offset, path...))
			}
			continue
		}
		found = append(found, at(i, 0, path...))
		found = append(found, spotsOf(kid, append(slices.Clone(path), i))...)
	}
	return append(found, at(len(n.Kids), 0, path...))
}

// paths are all paths of up to that many steps, with some that lead to nothing.
func paths(steps int) [][]int {
	all := [][]int{nil}
	for from := 0; steps > 0; steps-- {
		to := len(all)
		for _, path := range all[from:to] {
			for i := -1; i <= most; i++ {
				all = append(all, append(slices.Clone(path), i))
			}
		}
		from = to
	}
	return all
}

func TestP3OneSpotOnePosition(t *testing.T) {
	for _, kids := range kidLists(most, deepest) {
		n := of("doc", kids...)
		want := spotsOf(n, nil)
		if len(want) != node.Total(kids)+1 {
			t.Fatalf("%q: %v", n, want)
		}
		checkSpots(t, fmt.Sprintf("%q", n), n, want)
	}
}

// TestP3NoOtherSpots: what Resolve tells of no position, Pos refuses.
func TestP3NoOtherSpots(t *testing.T) {
	all := paths(2)
	for _, kids := range kidLists(3, 2) {
		n := of("doc", kids...)
		known := map[string]int{}
		for pos, s := range spotsOf(n, nil) {
			known[fmt.Sprint(s)] = pos
		}
		for _, path := range all {
			for index := -1; index <= 4; index++ {
				for offset := -1; offset <= 2; offset++ {
					s := at(index, offset, path...)
					want, ok := known[fmt.Sprint(s)]
					if pos, e := place.Pos(n, s); pos != want || (e == api.OK) != ok || (e == api.ErrNone) == ok {
						t.Fatalf("%q: %v is %d, %d", n, s, pos, e)
					}
				}
			}
		}
	}
}

// TestP1AsTokens: a position is how many tokens are ahead of it, so the one that follows it tells where it is.
func TestP1AsTokens(t *testing.T) {
	for _, kids := range kidLists(most, deepest) {
		n := of("doc", kids...)
		for pos, next := range append(token.Of(kids), token.Token{Kind: token.Close}) {
			s, _ := place.Resolve(n, pos)
			inner, e := place.Inner(n, s.Path)
			if e != api.OK || !leadsTo(inner, s, next) {
				t.Fatalf("%q: %d is at %v", n, pos, s)
			}
		}
	}
}

// leadsTo tells whether the token that follows a spot is that one.
func leadsTo(inner api.Node, s place.Spot, next token.Token) bool {
	if s.Index == len(inner.Kids) {
		return next.Kind == token.Close && s.Offset == 0
	}
	return token.Of(inner.Kids[s.Index:])[s.Offset] == next
}

// TestP2AndP1Agree: a node's kids begin at the position of its first spot, and With puts there just what Inner tells.
func TestP2AndP1Agree(t *testing.T) {
	z := of("z", text("new"))
	all := paths(deepest)
	for _, kids := range kidLists(3, deepest) {
		n := of("doc", kids...)
		for _, path := range all {
			inner, e := place.Inner(n, path)
			if e != api.OK {
				if !refusedPath(n, path) {
					t.Fatalf("%q: %v", n, path)
				}
				continue
			}
			start, _ := place.Start(n, path)
			if end, e := place.Pos(n, at(len(inner.Kids), 0, path...)); e != api.OK || end-node.Total(inner.Kids) != start {
				t.Fatalf("%q: %v starts at %d", n, path, start)
			}
			if s, e := place.Resolve(n, start); e != api.OK || !slices.Equal(s.Path[:len(path)], path) {
				t.Fatalf("%q: %v starts at %d, which is at %v", n, path, start, s)
			}
			with, _ := place.With(n, path, z)
			there, _ := place.Inner(with, path)
			back, _ := place.With(with, path, inner)
			if !node.Same(there, z) || !node.Same(back, n) {
				t.Fatalf("%q: %v: %q, %q", n, path, with, back)
			}
		}
	}
}

// nest puts n into as many nodes in one another.
func nest(n api.Node, times int) api.Node {
	for range times {
		n = of("p", n)
	}
	return n
}

// TestDeepAndWide: as much nested, and as long, as the limits of the document allow for, ends without a panic, and soon.
func TestDeepAndWide(t *testing.T) {
	const nested = 1<<16 - 1
	deep := nest(text("a"), nested)
	path := make([]int, nested-1)
	for _, c := range []struct {
		pos  int
		want place.Spot
	}{
		{0, at(0, 0)}, {nested - 1, at(0, 0, path...)}, {nested, at(1, 0, path...)}, {nested + 1, at(1, 0, path[1:]...)}, {2*nested - 1, at(1, 0)},
	} {
		s, e := place.Resolve(deep, c.pos)
		if e != api.OK || !slices.Equal(s.Path, c.want.Path) || s.Index != c.want.Index || s.Offset != 0 {
			t.Error(c.pos, len(s.Path), s.Index, e)
		}
		if pos, e := place.Pos(deep, c.want); e != api.OK || pos != c.pos {
			t.Error(c.pos, pos, e)
		}
	}
	if s, e := place.Resolve(deep, 2*nested); e != api.ErrRange || len(s.Path) != 0 {
		t.Error(e)
	}
	inner, e := place.Inner(deep, path)
	start, f := place.Start(deep, path)
	with, g := place.With(deep, path, of("z"))
	if e != api.OK || f != api.OK || g != api.OK || !node.Same(inner, of("p", text("a"))) || start != nested-1 || !node.Same(with, nest(of("z"), nested-1)) {
		t.Error("deep", e, f, g, start)
	}
	if !refusedPath(deep, make([]int, nested)) || !refusedPath(deep, make([]int, 1<<18)) {
		t.Error("too deep")
	}
	const many = 1 << 17
	wide := of("doc", slices.Repeat([]api.Node{text("é"), of("p")}, many)...)
	for _, c := range []struct {
		pos  int
		want place.Spot
	}{{3*many - 1, at(0, 0, 2*many-1)}, {3 * many, at(2*many, 0)}, {3*many - 3, at(2*many-2, 0)}} {
		if s, e := place.Resolve(wide, c.pos); e != api.OK || !equal(s, c.want) {
			t.Error(c.pos, s, e)
		}
		if pos, e := place.Pos(wide, c.want); e != api.OK || pos != c.pos {
			t.Error(c.want, pos, e)
		}
	}
}

// full is a node whose lists have more behind their length, and a path likewise.
func full() (api.Node, []int) {
	inner := of("p", text("hé"), text("!", "b"), text("behind"))
	inner.Kids = inner.Kids[:2]
	inner.Attrs = append(make([]api.Attr, 0, 2), api.Attr{Name: "a", Value: "1"})
	n := of("doc", of("q"), of("l", inner, text("behind")), text("behind"))
	n.Kids[1].Kids = n.Kids[1].Kids[:1]
	n.Kids = n.Kids[:2]
	return n, []int{1, 0, 7}[:2]
}

// unchanged tells whether what full tells is still so, also behind the lengths.
func unchanged(n api.Node, path []int) bool {
	want, same := full()
	for range 3 {
		if !node.Same(n, want) {
			return false
		}
		n.Kids, want.Kids = n.Kids[:cap(n.Kids)], want.Kids[:cap(want.Kids)]
		if !node.Same(n, want) {
			return false
		}
		n, want = n.Kids[min(1, len(n.Kids)-2)], want.Kids[min(1, len(want.Kids)-2)]
	}
	return slices.Equal(path[:3], same[:3])
}

func TestNothingIsWrittenInto(t *testing.T) {
	n, path := full()
	m, _ := full()
	place.Resolve(n, 4)
	place.Pos(n, place.Spot{Path: path, Index: 1})
	place.Inner(n, path)
	place.Start(n, path)
	place.With(n, path, m)
	place.With(n, path, n)
	if !unchanged(n, path) || !unchanged(m, path) {
		t.Errorf("%q, %q, %v", n, m, path)
	}
}

// spoil writes into each list of a node, and behind it.
func spoil(n api.Node) {
	_, _, _ = append(n.Marks, "behind"), append(n.Attrs, api.Attr{Name: "behind"}), append(n.Kids, of("spoilt"))
	for i, kid := range n.Kids {
		spoil(kid)
		n.Kids[i] = of("spoilt")
	}
	for i := range n.Marks {
		n.Marks[i] = "spoilt"
	}
	clear(n.Attrs)
}

func TestAnswersAreNew(t *testing.T) {
	n, path := full()
	m, _ := full()
	inner, _ := place.Inner(n, path)
	root, _ := place.Inner(n, nil)
	with, _ := place.With(n, path, m)
	whole, _ := place.With(n, nil, m)
	for _, answer := range []api.Node{inner, root, with, whole} {
		spoil(answer)
	}
	if !unchanged(n, path) || !unchanged(m, path) {
		t.Errorf("an answer shares lists with what was handed in: %q, %q", n, m)
	}
	inner, _ = place.Inner(n, path)
	with, _ = place.With(n, path, m)
	wantInner, wantWith := node.Copy(inner), node.Copy(with)
	spoil(n)
	spoil(m)
	clear(path)
	if !node.Same(inner, wantInner) || !node.Same(with, wantWith) {
		t.Errorf("a later change is seen: %q, %q", inner, with)
	}
}

// TestNoTwoListsShare: where what is handed in holds one list twice, and is put into itself, the answer has as many lists as nodes.
func TestNoTwoListsShare(t *testing.T) {
	twin := of("p", text("a", "b"))
	n := of("doc", twin, twin, of("q"))
	for i, answer := range []func() (api.Node, api.Errno){
		func() (api.Node, api.Errno) { return place.Inner(n, nil) },
		func() (api.Node, api.Errno) { return place.With(n, []int{2}, twin) },
		func() (api.Node, api.Errno) { return place.With(n, []int{2}, n) },
	} {
		got, _ := answer()
		want := node.Copy(got)
		spoil(got.Kids[0])
		if !node.Same(of("x", got.Kids[1:]...), of("x", want.Kids[1:]...)) {
			t.Errorf("%d: %q", i, got)
		}
	}
}

func TestPathsThatAreAnsweredAreNew(t *testing.T) {
	n, path := full()
	first, _ := place.Resolve(n, 4)
	again, _ := place.Resolve(n, 4)
	want := at(0, 0, path...)
	first.Path[0] = 7
	_ = append(first.Path[:1], 7)
	if !equal(again, want) {
		t.Error(again)
	}
	if third, e := place.Resolve(n, 4); e != api.OK || !equal(third, want) {
		t.Error(third, e)
	}
}

// TestTheSameAgain asks the same twice, with other calls between.
func TestTheSameAgain(t *testing.T) {
	for _, kids := range kidLists(2, 2) {
		n := of("doc", kids...)
		for pos := -1; pos <= node.Total(kids)+1; pos++ {
			s, e := place.Resolve(n, pos)
			place.Resolve(of("doc", text("other")), 1)
			place.With(n, []int{0}, text("other"))
			if again, f := place.Resolve(n, pos); !equal(s, again) || e != f {
				t.Errorf("%q: %d is at %v, then at %v", n, pos, s, again)
			}
		}
	}
}
