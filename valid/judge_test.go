package valid

import (
	"testing"

	"diptych/api"
	"diptych/schema"
)

// TestTablesAreMadeOnce: the table of a kind is there from the first node on that asks for it, and stays the same one.
func TestTablesAreMadeOnce(t *testing.T) {
	s, e := schema.Parse("node doc: a*\nnode a: text*\nnode b: ()\nnode c x=*: ()\n")
	if e != api.OK {
		t.Fatal(e)
	}
	j := newJudge(s)
	made := func(want ...int) {
		t.Helper()
		for i := range j.tables {
			if got := len(j.tables[i].rows.Next); got != want[i] {
				t.Error(s.Kinds[i].Name, got)
			}
		}
	}
	made(0, 0, 0, 0)
	j.bad(api.Node{Kind: "none"})
	j.bad(api.Node{Kind: api.TextKind, Text: "x"})
	// Without its attribute no content makes it fit.
	j.bad(api.Node{Kind: "c"})
	made(0, 0, 0, 0)
	j.bad(api.Node{Kind: "doc"})
	made(1, 0, 0, 0)
	first := &j.tables[0].rows.Next[0]
	j.bad(api.Node{Kind: "doc", Kids: []api.Node{{Kind: "a"}, {Kind: "a"}}})
	j.bad(api.Node{Kind: "doc"})
	made(1, 1, 0, 0)
	if &j.rows(0).Next[0] != first {
		t.Error("made again")
	}
	j.bad(api.Node{Kind: "c", Attrs: []api.Attr{{Name: "x"}}})
	made(1, 1, 0, 1)
}
