package node_test

import (
	"slices"
	"strings"
	"testing"

	"diptych/api"
	"diptych/node"
)

// lists calls yield with each list of up to four of some nodes: texts with the same and with other marks, empty ones, others.
func lists(yield func(l []api.Node)) {
	some := []api.Node{
		text("a"), text("é"), text(""), text("b", "b"), text("", "b"), text("c", "b", "i"),
		of("p"), of("p", text("x"), text("y"), text("")), oddText("o"),
	}
	var grow func(l []api.Node)
	grow = func(l []api.Node) {
		yield(l)
		if len(l) == 4 {
			return
		}
		for _, n := range some {
			grow(append(slices.Clone(l), n))
		}
	}
	grow(nil)
}

func TestN3Joined(t *testing.T) {
	lists(func(l []api.Node) {
		once := node.Join(l)
		before, after := of("x", l...), of("x", once...)
		if !node.Same(after, of("x", node.Join(once)...)) {
			t.Errorf("joined twice is not joined once: %q", l)
		}
		if node.Total(l) != node.Total(once) || node.Size(before) != node.Size(after) {
			t.Errorf("joining changes the size: %q", l)
		}
		if node.Words(before) != node.Words(after) {
			t.Errorf("joining changes the words: %q", l)
		}
		if slices.ContainsFunc(once, func(n api.Node) bool { return n.Kind == "text" && n.Text == "" }) {
			t.Errorf("an empty text is left: %q", l)
		}
	})
}

func TestN3JoinedIsWellFormed(t *testing.T) {
	l := []api.Node{text("a"), text("b"), text(""), of("q"), text("c", "b"), text("", "i"), text("d", "b")}
	if node.Right(of("p", l...)) || !node.Right(of("p", node.Join(l)...)) {
		t.Error(node.Join(l))
	}
}

func TestN3SameIsAsGreatAndAsDeep(t *testing.T) {
	lists(func(l []api.Node) {
		n := of("x", l...)
		m := node.Copy(n)
		if !node.Same(n, m) || node.Size(n) != node.Size(m) || node.Depth(n) != node.Depth(m) || node.Words(n) != node.Words(m) || node.Check(n) != node.Check(m) {
			t.Errorf("%q", l)
		}
	})
	empty := api.Node{Kind: "p", Marks: []string{}, Attrs: []api.Attr{}, Kids: []api.Node{}}
	if node.Size(empty) != node.Size(of("p")) || node.Depth(empty) != node.Depth(of("p")) {
		t.Error("nil and empty are not as great, or as deep")
	}
}

// TestP1: as much nested, and as long, as the limits allow for, ends without a panic, and soon.
func TestP1(t *testing.T) {
	const nested = 1<<16 - 1
	deep := nest(text("a"), nested)
	if node.Check(deep) != api.ErrDeep || node.Depth(deep) != nested || node.Size(deep) != 2*nested+1 || node.Words(deep) != "a" {
		t.Error("deep")
	}
	if !node.Same(deep, node.Copy(deep)) || node.Same(deep, nest(text("b"), nested)) || len(node.Join([]api.Node{deep, deep})) != 2 {
		t.Error("deep: same")
	}
	const many = 1 << 18
	wide := of("doc", repeat(text("é"), many)...)
	if node.Check(wide) != api.ErrForm || node.Size(wide) != many+2 || node.Words(wide) != strings.Repeat("é", many) {
		t.Error("wide")
	}
	if l := node.Join(wide.Kids); len(l) != 1 || l[0].Text != strings.Repeat("é", many) {
		t.Error("wide: join")
	}
}

// full is a list of as much as all of the calls look at, with more behind its length.
func full() []api.Node {
	l := []api.Node{text("a", "b"), sample(), text("x"), text(""), text("y"), oddText("z"), text("behind")}
	return l[:6]
}

func TestP3NothingIsWrittenInto(t *testing.T) {
	l := full()
	n := of("doc", l...)
	joined := node.Join(l)
	node.Total(l)
	node.Check(n)
	node.Right(n)
	node.Same(n, of("doc", full()...))
	node.Size(n)
	node.Depth(n)
	node.Words(n)
	node.Copy(n)
	if !node.Same(of("doc", l[:7]...), of("doc", full()[:7]...)) {
		t.Errorf("%q", l[:7])
	}
	want := []api.Node{text("a", "b"), sample(), oddText("xyz")}
	if !node.Same(of("doc", joined...), of("doc", want...)) {
		t.Errorf("%q", joined)
	}
}

func TestP3ListsThatAreAnsweredAreNew(t *testing.T) {
	for i, l := range [][]api.Node{{text("a"), of("p")}, {text("a"), text("b"), of("p")}, {text(""), of("p")}} {
		before := node.Copy(of("x", l...))
		joined := node.Join(l)
		for j := range joined {
			joined[j] = of("q")
		}
		if !node.Same(before, of("x", l...)) {
			t.Errorf("%d: the answer is the list that was handed in", i)
		}
		joined = node.Join(l)
		want := node.Copy(of("x", joined...))
		clear(l)
		if !node.Same(want, of("x", joined...)) {
			t.Errorf("%d: a later change is seen", i)
		}
	}
	last := oddText("b")
	last.Marks = []string{"b"}
	joined := node.Join([]api.Node{text("a", "b"), last})
	joined[0].Marks[0], joined[0].Attrs[0].Value, joined[0].Kids[0].Kind = "c", "2", "q"
	if last.Marks[0] != "b" || last.Attrs[0].Value != "1" || last.Kids[0].Kind != "p" {
		t.Error("texts that became one share lists with what was handed in")
	}
}

func TestP4TheSameAgain(t *testing.T) {
	n := of("doc", full()...)
	for range 3 {
		if node.Check(n) != api.ErrForm || node.Size(n) != node.Size(of("doc", full()...)) || !node.Same(of("x", node.Join(n.Kids)...), of("x", node.Join(full())...)) {
			t.Error("another answer")
		}
	}
}
