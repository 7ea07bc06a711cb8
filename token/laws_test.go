package token_test

import (
	"fmt"
	"slices"
	"testing"

	"diptych/api"
	"diptych/codec"
	"diptych/node"
	"diptych/token"
)

// rightLists are all lists of nodes that are right together and of that size, out of two heads and three signs.
func rightLists(size int) [][]api.Node {
	if size == 0 {
		return [][]api.Node{nil}
	}
	var lists [][]api.Node
	for inner := range size - 1 {
		for _, kids := range rightLists(inner) {
			for _, rest := range rightLists(size - 2 - inner) {
				lists = append(lists, slices.Concat([]api.Node{of("p", kids...)}, rest))
				lists = append(lists, slices.Concat([]api.Node{{Kind: "q", Attrs: []api.Attr{attr("a", "1")}, Kids: kids}}, rest))
			}
		}
	}
	for _, first := range []api.Node{text("a"), text("é"), text("a", "b")} {
		for _, rest := range rightLists(size - 1) {
			lists = append(lists, node.Join(slices.Concat([]api.Node{first}, rest)))
		}
	}
	return lists
}

const longest = 5

// TestK1BuildOfAllShortRows holds Build of each row of tokens, some of them wrong, against all right nodes that there are.
func TestK1BuildOfAllShortRows(t *testing.T) {
	known := map[string]string{}
	for size := range longest + 1 {
		for _, l := range rightLists(size) {
			s, e := codec.PrintAll(l)
			if e != api.OK {
				t.Fatal(s, e)
			}
			known[fmt.Sprint(token.Of(l))] = s
		}
	}
	some := tokens{
		opened("p"), opened(`q(a="1")`), closed, sign("a", ""), sign("é", ""), sign("a", "<b>"),
		opened("p[]p"), {Kind: token.Close, Head: "p"}, sign("a", `"a"`),
	}
	found := 0
	var grow func(l tokens)
	grow = func(l tokens) {
		n, e := token.Build(l)
		want, ok := known[fmt.Sprint(l)]
		s, _ := codec.PrintAll(n)
		if ok && (e != api.OK || s != want) || !ok && (e != api.ErrForm || len(n) != 0) {
			t.Fatalf("%q: %q, %d, not %q", l, s, e, want)
		}
		if ok {
			found++
		}
		for i := 0; len(l) < longest && i < len(some); i++ {
			grow(append(slices.Clone(l), some[i]))
		}
	}
	grow(nil)
	if found != len(known) {
		t.Error(found, len(known))
	}
}

func TestK3(t *testing.T) {
	for size := range longest + 2 {
		for _, l := range rightLists(size) {
			tokens := token.Of(l)
			if len(tokens) != size || node.Total(l) != size {
				t.Fatalf("%q: %d tokens, %d, not %d", l, len(tokens), node.Total(l), size)
			}
			if n, e := token.Build(tokens); e != api.OK || !node.Same(of("x", n...), of("x", l...)) {
				t.Fatalf("%q: %q, %d", l, n, e)
			}
		}
	}
	for i, r := range append(rightRows(), oddRows()...) {
		if got := len(token.Of(r.nodes)); got != node.Total(r.nodes) {
			t.Errorf("%d: %d tokens", i, got)
		}
	}
}

// TestK2OfAllShortRows: what both ends have in common does not overlap, and cannot be more.
func TestK2OfAllShortRows(t *testing.T) {
	var rows []tokens
	for size := range 4 {
		for _, l := range rightLists(size) {
			rows = append(rows, token.Of(l))
		}
	}
	for _, a := range rows {
		for _, b := range rows {
			same, back := token.Same(a, b), token.Back(a, b)
			rest := min(len(a), len(b)) - same - back
			if same < 0 || back < 0 || rest < 0 || !slices.Equal(a[:same], b[:same]) || !slices.Equal(a[len(a)-back:], b[len(b)-back:]) {
				t.Fatalf("%q, %q: %d, %d", a, b, same, back)
			}
			if rest > 0 && (a[same] == b[same] || a[len(a)-1-back] == b[len(b)-1-back]) {
				t.Fatalf("%q, %q: more than %d, %d", a, b, same, back)
			}
		}
	}
}

// TestP1: as much nested, and as long, as the limits allow for, ends without a panic, and soon.
func TestP1(t *testing.T) {
	const deepest = 1<<16 - 1
	deep := of("p")
	for range deepest - 1 {
		deep = of("p", deep)
	}
	l := token.Of([]api.Node{deep})
	if len(l) != 2*deepest || l[deepest-1] != opened("p") || l[deepest] != closed {
		t.Error("deep", len(l))
	}
	const many = 1 << 17
	for i, c := range []struct {
		l    tokens
		want api.Errno
	}{
		{l, api.ErrDeep},
		{l[1:], api.ErrForm},
		{slices.Repeat(tokens{opened("p")}, many), api.ErrForm},
		{slices.Repeat(tokens{closed}, many), api.ErrForm},
		{slices.Repeat(tokens{opened("p"), closed}, many), api.ErrLarge},
		{slices.Repeat(tokens{sign("a", "")}, many), api.ErrLarge},
		{slices.Repeat(tokens{sign("a", ""), sign("b", "<b>")}, many), api.ErrLarge},
		{append(slices.Repeat(tokens{sign("é", "<b>")}, many), sign("", "<b>")), api.ErrForm},
		{make(tokens, many), api.ErrForm},
	} {
		if !refused(c.l, c.want) {
			t.Errorf("%d: not %d", i, c.want)
		}
		if token.Same(c.l, slices.Clone(c.l)) != len(c.l) || token.Back(c.l, c.l) != 0 || token.Back(c.l, append(tokens{{Kind: 'x'}}, c.l...)) < 1 {
			t.Errorf("%d: ends", i)
		}
	}
}

// full is tokens with some more behind their length.
func full() tokens {
	return append(rightRows()[13].tokens, closed, sign("behind", ""))[:6]
}

func TestP3NothingIsWrittenInto(t *testing.T) {
	l, other := full(), full()[:3]
	n, e := token.Build(l)
	if s, _ := codec.PrintAll(n); s != `p["a"q(a="1")[]]"z"` || e != api.OK {
		t.Error(s, e)
	}
	if token.Same(l, other) != 3 || token.Back(l, other) != 0 || token.Back(l[1:], other) != 0 {
		t.Error("ends")
	}
	if !slices.Equal(l[:8], full()[:8]) {
		t.Errorf("%q", l[:8])
	}
	kids := []api.Node{text("x"), of("p", text("y")), text("behind")}
	doc := []api.Node{of("doc", kids[:2]...), text("behind")}
	if got := token.Of(doc[:1]); len(got) != 6 {
		t.Errorf("%q", got)
	}
	if !node.Same(of("x", kids...), of("x", text("x"), of("p", text("y")), text("behind"))) || doc[1].Text != "behind" {
		t.Errorf("%q, %q", kids, doc)
	}
}

func TestP3AnswersAreNew(t *testing.T) {
	doc := []api.Node{of("doc", text("ab", "b", "i"))}
	first := token.Of(doc)
	want := slices.Clone(first)
	doc[0].Kids[0].Marks[0], doc[0].Kids[0].Text = "c", "c"
	if !slices.Equal(first, want) {
		t.Errorf("a later change is seen: %q", first)
	}
	l, e := token.Build(first)
	clear(first)
	if s, _ := codec.PrintAll(l); s != `doc["ab"<b,i>]` || e != api.OK {
		t.Errorf("a later change is seen: %q", s)
	}
}

// TestP3BuildSharesNoLists writes into each list of an answer, and behind it: nothing else may change by that.
func TestP3BuildSharesNoLists(t *testing.T) {
	row := append(tokens{sign("a", "<b,i>"), opened(`q(a="1")`), sign("a", "<b,i>"), closed}, tokens{sign("b", "<b,i>"), opened(`q(a="1")`), sign("a", ""), sign("a", "<b,i>"), closed}...)
	l, _ := token.Build(row)
	again, _ := token.Build(row)
	var spoil func(l []api.Node)
	spoil = func(l []api.Node) {
		for i := range l {
			_ = append(l[i].Marks, "behind")
			_ = append(l[i].Attrs, attr("behind", ""))
			_ = append(l[i].Kids, of("behind"))
			spoil(l[i].Kids)
		}
	}
	spoil(l)
	if !node.Same(of("x", l...), of("x", again...)) {
		t.Errorf("lists of an answer lie in one another: %q", l)
	}
	l[0].Marks[0], l[1].Attrs[0].Value, l[1].Kids[0].Text = "a", "2", "x"
	if s, _ := codec.PrintAll(l); s != `"a"<a,i>q(a="2")["x"<b,i>]"b"<b,i>q(a="1")["a""a"<b,i>]` {
		t.Errorf("nodes of an answer share lists: %q", s)
	}
	if !slices.Equal(token.Of(again), row) {
		t.Error("another answer changed")
	}
}

// TestP4 asks the same twice, with other calls between.
func TestP4(t *testing.T) {
	for i, r := range rightRows() {
		first := token.Of(r.nodes)
		token.Build(tokens{closed})
		token.Of([]api.Node{text("other")})
		l, e := token.Build(first)
		if !slices.Equal(token.Of(l), token.Of(r.nodes)) || e != api.OK {
			t.Errorf("%d: another answer", i)
		}
	}
}
