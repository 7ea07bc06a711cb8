package place_test

import (
	"fmt"
	"math"
	"testing"

	"diptych/api"
	"diptych/codec"
	"diptych/node"
	"diptych/place"
)

func text(s string, marks ...string) api.Node {
	return api.Node{Kind: api.TextKind, Text: s, Marks: marks}
}

func of(kind string, kids ...api.Node) api.Node { return api.Node{Kind: kind, Kids: kids} }

// oddText is a text that is not well formed: it has kids, which do not count.
func oddText(s string) api.Node {
	return api.Node{Kind: api.TextKind, Text: s, Kids: []api.Node{of("p", text("inner"))}}
}

func parsed(t *testing.T, s string) api.Node {
	t.Helper()
	n, e := codec.Parse(s)
	if e != api.OK {
		t.Fatal(s, e)
	}
	return n
}

func at(index, offset int, path ...int) place.Spot {
	return place.Spot{Path: path, Index: index, Offset: offset}
}

// equal takes nil and empty paths as the same, as the document does.
func equal(a, b place.Spot) bool { return fmt.Sprint(a) == fmt.Sprint(b) }

type spots = []place.Spot

func TestP1ResolvePos(t *testing.T) {
	for _, c := range []struct {
		node string
		want spots
	}{
		{`doc[p["hi"]]`, spots{at(0, 0), at(0, 0, 0), at(0, 1, 0), at(1, 0, 0), at(1, 0)}},
		{`doc[]`, spots{at(0, 0)}},
		{`doc["a"]`, spots{at(0, 0), at(1, 0)}},
		{`doc["hé日😀"]`, spots{at(0, 0), at(0, 1), at(0, 2), at(0, 3), at(1, 0)}},
		{"doc[\"e\u0301\"]", spots{at(0, 0), at(0, 1), at(1, 0)}},
		{`doc["ab""c"<b>"d"]`, spots{at(0, 0), at(0, 1), at(1, 0), at(2, 0), at(3, 0)}},
		{`doc["a"p[]"bc"<b>]`, spots{at(0, 0), at(1, 0), at(0, 0, 1), at(2, 0), at(2, 1), at(3, 0)}},
		{`doc[p[]p[]]`, spots{at(0, 0), at(0, 0, 0), at(1, 0), at(0, 0, 1), at(2, 0)}},
		{`doc[p[q[r[]]]]`, spots{at(0, 0), at(0, 0, 0), at(0, 0, 0, 0), at(0, 0, 0, 0, 0), at(1, 0, 0, 0), at(1, 0, 0), at(1, 0)}},
		{
			`doc[p["x"q["yz"]"w"<b>]p[]]`,
			spots{at(0, 0), at(0, 0, 0), at(1, 0, 0), at(0, 0, 0, 1), at(0, 1, 0, 1), at(1, 0, 0, 1), at(2, 0, 0), at(3, 0, 0), at(1, 0), at(0, 0, 1), at(2, 0)},
		},
	} {
		checkSpots(t, c.node, parsed(t, c.node), c.want)
	}
}

// TestP1OddNodes: nodes that are not right have positions all the same; at the end of a text that is empty, the spot is that of the next kid.
func TestP1OddNodes(t *testing.T) {
	for i, c := range []struct {
		n    api.Node
		want spots
	}{
		{api.Node{}, spots{at(0, 0)}},
		{api.Node{Kind: "P", Text: "no", Marks: []string{"b"}, Kids: []api.Node{{}}}, spots{at(0, 0), at(0, 0, 0), at(1, 0)}},
		{of("p", text("")), spots{at(1, 0)}},
		{of("p", text(""), text("")), spots{at(2, 0)}},
		{of("p", text(""), text("a"), text("")), spots{at(1, 0), at(3, 0)}},
		{of("p", text("a"), text("b")), spots{at(0, 0), at(1, 0), at(2, 0)}},
		{of("p", text("a"), text(""), text("b")), spots{at(0, 0), at(2, 0), at(3, 0)}},
		{of("p", text(""), of("q", text("")), text("")), spots{at(1, 0), at(1, 0, 1), at(3, 0)}},
		{of("p", of("q"), text(""), of("q")), spots{at(0, 0), at(0, 0, 0), at(2, 0), at(0, 0, 2), at(3, 0)}},
		{of("p", text("a\xff\xe6\x97é")), spots{at(0, 0), at(0, 1), at(0, 2), at(0, 3), at(0, 4), at(1, 0)}},
		{of("p", oddText("ab"), of("q")), spots{at(0, 0), at(0, 1), at(1, 0), at(0, 0, 1), at(2, 0)}},
		{of("p", oddText("")), spots{at(1, 0)}},
	} {
		checkSpots(t, fmt.Sprint(i), c.n, c.want)
	}
}

// checkSpots holds all positions of a node, and some that are none, against the spots that they must have.
func checkSpots(t *testing.T, name string, n api.Node, want spots) {
	t.Helper()
	for pos, spot := range want {
		if s, e := place.Resolve(n, pos); e != api.OK || !equal(s, spot) {
			t.Errorf("%s: %d is at %v, %d, not at %v", name, pos, s, e, spot)
		}
		if p, e := place.Pos(n, spot); e != api.OK || p != pos {
			t.Errorf("%s: %v is %d, %d, not %d", name, spot, p, e, pos)
		}
	}
	for _, pos := range []int{-1, -2, math.MinInt, len(want), len(want) + 1, math.MaxInt} {
		if s, e := place.Resolve(n, pos); e != api.ErrRange || !equal(s, place.Spot{}) {
			t.Errorf("%s: %d is at %v, %d", name, pos, s, e)
		}
	}
}

func TestP1ResolveRefusesTexts(t *testing.T) {
	for i, n := range []api.Node{text("ab"), text(""), text("a", "b"), oddText("ab"), oddText("")} {
		for pos := -1; pos < 9; pos++ {
			if s, e := place.Resolve(n, pos); e != api.ErrRange || !equal(s, place.Spot{}) {
				t.Errorf("%d: %d is at %v, %d", i, pos, s, e)
			}
		}
		for _, s := range (spots{at(0, 0), at(0, 1), at(1, 0), at(0, 0, 0)}) {
			if p, e := place.Pos(n, s); e != api.ErrNone || p != 0 {
				t.Errorf("%d: %v is %d, %d", i, s, p, e)
			}
		}
	}
}

func TestP1PosRefuses(t *testing.T) {
	n := of("doc", of("p", text("hé"), text("!", "b")), of("q"), text(""), oddText("xyz"), of("l", of("p", text("x"))))
	for i, s := range (spots{
		at(-1, 0), at(6, 0), at(7, 0), at(math.MaxInt, 0), at(math.MinInt, 0),
		at(0, 1), at(0, -1), at(0, math.MaxInt), at(1, 1), at(5, 1), at(5, -1), at(5, math.MinInt),
		at(2, 0), at(2, 1), at(2, -1), at(3, 3), at(3, 4), at(3, -1), at(3, math.MaxInt), at(3, math.MinInt),
		at(-1, 0, 0), at(3, 0, 0), at(0, 2, 0), at(0, -1, 0), at(1, 1, 0), at(2, 1, 0), at(1, 0, 1), at(0, 1, 1), at(0, -1, 1),
		at(0, 0, -1), at(0, 0, 5), at(0, 0, 6), at(0, 0, math.MaxInt), at(0, 0, math.MinInt),
		at(0, 0, 2), at(0, 0, 3), at(1, 0, 3), at(0, 0, 3, 0), at(1, 0, 3, 0), at(0, 0, 0, 0), at(0, 0, 0, 2), at(0, 0, 1, 0), at(0, 0, 0, -1),
		at(0, 0, 4, 1), at(0, 0, 4, 0, 0), at(0, 1, 4, 0), at(2, 0, 4, 0), at(0, 0, 4, -1), at(0, 0, -1, 0), at(0, 0, 5, 0),
	}) {
		if p, e := place.Pos(n, s); e != api.ErrNone || p != 0 {
			t.Errorf("%d: %v is %d, %d", i, s, p, e)
		}
	}
}

func TestP2(t *testing.T) {
	const doc = `doc["a"p(a="1")["hé""!"<b>]l[p["x"]"y"q[]r[p[]]]]`
	n := parsed(t, doc)
	for i, c := range []struct {
		path  []int
		inner string
		start int
		with  string
	}{
		{nil, doc, 0, `z["new"]`},
		{[]int{1}, `p(a="1")["hé""!"<b>]`, 2, `doc["a"z["new"]l[p["x"]"y"q[]r[p[]]]]`},
		{[]int{2}, `l[p["x"]"y"q[]r[p[]]]`, 7, `doc["a"p(a="1")["hé""!"<b>]z["new"]]`},
		{[]int{2, 0}, `p["x"]`, 8, `doc["a"p(a="1")["hé""!"<b>]l[z["new"]"y"q[]r[p[]]]]`},
		{[]int{2, 2}, `q[]`, 12, `doc["a"p(a="1")["hé""!"<b>]l[p["x"]"y"z["new"]r[p[]]]]`},
		{[]int{2, 3}, `r[p[]]`, 14, `doc["a"p(a="1")["hé""!"<b>]l[p["x"]"y"q[]z["new"]]]`},
		{[]int{2, 3, 0}, `p[]`, 15, `doc["a"p(a="1")["hé""!"<b>]l[p["x"]"y"q[]r[z["new"]]]]`},
	} {
		inner, e := place.Inner(n, c.path)
		if e != api.OK || !node.Same(inner, parsed(t, c.inner)) {
			t.Errorf("%d: %q, %d", i, inner, e)
		}
		if start, e := place.Start(n, c.path); e != api.OK || start != c.start {
			t.Errorf("%d: %d, %d", i, start, e)
		}
		with, e := place.With(n, c.path, of("z", text("new")))
		if e != api.OK || !node.Same(with, parsed(t, c.with)) {
			t.Errorf("%d: %q, %d", i, with, e)
		}
	}
}

// TestP2WithAnyNode: what is put there is not judged, and nothing is joined with it.
func TestP2WithAnyNode(t *testing.T) {
	n := of("doc", text("a"), of("p", text("b")), text("c"))
	odd := api.Node{Kind: "Z", Text: "no", Marks: []string{"b"}, Attrs: []api.Attr{{Name: "", Value: "\xff"}}}
	for i, m := range []api.Node{{}, text("x"), text(""), oddText("y"), odd, n} {
		if got, e := place.With(n, []int{1}, m); e != api.OK || !node.Same(got, of("doc", text("a"), m, text("c"))) {
			t.Errorf("%d: %q, %d", i, got, e)
		}
		if got, e := place.With(n, nil, m); e != api.OK || !node.Same(got, m) {
			t.Errorf("%d: %q, %d", i, got, e)
		}
	}
}

// TestP2OddNodes: nodes that are not right are told as they are.
func TestP2OddNodes(t *testing.T) {
	odd := api.Node{Kind: "P", Text: "no", Marks: []string{"b"}, Attrs: []api.Attr{{Name: "", Value: "\xff"}}, Kids: []api.Node{text(""), {}, oddText("\xff")}}
	n := of("doc", text(""), oddText("ab"), text("c\xff"), odd)
	for i, c := range []struct {
		path  []int
		inner api.Node
		start int
	}{{nil, n, 0}, {[]int{3}, odd, 5}, {[]int{3, 1}, api.Node{}, 6}} {
		if inner, e := place.Inner(n, c.path); e != api.OK || !node.Same(inner, c.inner) {
			t.Errorf("%d: %q, %d", i, inner, e)
		}
		if start, e := place.Start(n, c.path); e != api.OK || start != c.start {
			t.Errorf("%d: %d, %d", i, start, e)
		}
	}
	want := node.Copy(n)
	want.Kids[3].Kids[1] = of("z")
	if got, e := place.With(n, []int{3, 1}, of("z")); e != api.OK || !node.Same(got, want) {
		t.Errorf("%q, %d", got, e)
	}
}

// refusedPath tells whether all three calls answer ErrNone, and nothing else.
func refusedPath(n api.Node, path []int) bool {
	inner, e := place.Inner(n, path)
	start, f := place.Start(n, path)
	with, g := place.With(n, path, of("z", text("new")))
	return e == api.ErrNone && f == api.ErrNone && g == api.ErrNone && start == 0 && node.Same(inner, api.Node{}) && node.Same(with, api.Node{})
}

func TestP2Refuses(t *testing.T) {
	n := of("doc", of("p", text("hé")), of("l", of("p", text("x")), text("y")), oddText("z"), text(""))
	for _, path := range [][]int{
		{-1}, {4}, {5}, {math.MaxInt}, {math.MinInt}, {2}, {3}, {2, 0}, {2, 0, 0}, {3, 0}, {2, -1},
		{0, 0}, {0, 1}, {0, -1}, {0, 0, 0}, {0, 1, 0}, {1, 1}, {1, 2}, {1, -1}, {1, 0, 0}, {1, 0, 1}, {1, 1, 0}, {1, 0, 0, 0},
		{-1, 0}, {4, 0}, {0, -1, 0}, {0, math.MaxInt, 0},
	} {
		if !refusedPath(n, path) {
			t.Error(path)
		}
	}
	for i, text := range []api.Node{text("a"), text(""), text("a", "b"), oddText("a")} {
		for _, path := range [][]int{nil, {}, {0}, {0, 0}, {-1}} {
			if !refusedPath(text, path) {
				t.Error(i, path)
			}
		}
	}
}
