package valid

import (
	"slices"
	"sync"

	"diptych/api"
	"diptych/dfa"
	"diptych/schema"
)

// judge holds the nodes of a document against a schema that is right.
type judge struct {
	schema schema.Schema
	tables []table // kind by kind
	path   []int   // to the node that is looked at
}

// table is what the Content of a kind means. A document may have nodes of few kinds, and many of one, so it is made when the first one asks for it, and then stays.
type table struct {
	once sync.Once
	rows dfa.Dfa
}

func newJudge(s schema.Schema) *judge {
	return &judge{schema: s, tables: make([]table, len(s.Kinds))}
}

// bad tells whether n, or a node in it, does not fit; the path leads to the first such one then.
func (j *judge) bad(n api.Node) bool {
	if !j.fits(n) {
		return true
	}
	for i, kid := range n.Kids {
		j.path = append(j.path, i)
		if j.bad(kid) {
			return true
		}
		j.path = j.path[:len(j.path)-1]
	}
	return false
}

// fits looks at n alone.
func (j *judge) fits(n api.Node) bool {
	if n.Kind == api.TextKind {
		return j.hasMarks(n.Marks)
	}
	// schema.Find would copy the kind, node by node.
	i := slices.IndexFunc(j.schema.Kinds, func(k schema.Kind) bool { return k.Name == n.Kind })
	return i >= 0 && slices.EqualFunc(n.Attrs, j.schema.Kinds[i].Attrs, fitsDecl) && dfa.Has(j.rows(i), Kinds(n.Kids))
}

func (j *judge) hasMarks(marks []string) bool {
	for _, mark := range marks {
		if !slices.Contains(j.schema.Marks, mark) {
			return false
		}
	}
	return true
}

func fitsDecl(a api.Attr, d schema.Decl) bool {
	return a.Name == d.Name && schema.Takes(d, a.Value)
}

// rows are those that may stand in the kind at a place of the schema's.
func (j *judge) rows(place int) dfa.Dfa {
	t := &j.tables[place]
	t.once.Do(func() {
		// It is there: in a schema that is right each Content is.
		t.rows, _ = dfa.Of(j.schema.Kinds[place].Content)
	})
	return t.rows
}
