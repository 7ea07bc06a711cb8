package codec

import (
	"strings"

	"diptych/api"
	"diptych/node"
)

// reader holds what is still to be read. What is wrong leaves nothing to read, so that no call needs to look whether an earlier one failed.
type reader struct {
	rest  string
	wrong bool
}

func (r *reader) fail() { r.rest, r.wrong = "", true }

func (r *reader) take(s string) bool {
	rest, ok := strings.CutPrefix(r.rest, s)
	r.rest = rest
	return ok
}

func (r *reader) want(s string) {
	if !r.take(s) {
		r.fail()
	}
}

// read reads nodes to the end of s. The nodes that are still open lie in a list, not in calls within calls: s may nest them as deep as it is long.
func read(s string) ([]api.Node, bool) {
	r := reader{rest: s}
	open := []api.Node{around(nil)}
kids:
	for {
		last := len(open) - 1
		switch {
		case r.rest == "":
			break kids
		case r.rest[0] == '"':
			open[last].Kids = append(open[last].Kids, r.text())
		case !r.take("]"):
			open = append(open, r.head())
		case last == 0:
			r.fail()
		default:
			open[last-1].Kids = append(open[last-1].Kids, r.closed(open[last], last))
			open = open[:last]
		}
	}
	return open[0].Kids, !r.wrong && len(open) == 1
}

// closed judges a node that is too deep on the spot, and keeps it without its kids: the document is too deep all the same, but not too deep to be walked by calls within calls.
func (r *reader) closed(n api.Node, depth int) api.Node {
	if depth <= api.MaxDepth {
		return n
	}
	if node.Check(n) == api.ErrForm {
		r.fail()
	}
	n.Kids = nil
	return n
}

func (r *reader) text() api.Node {
	return api.Node{Kind: api.TextKind, Text: r.quoted(), Marks: r.marks()}
}

// head reads a node that is no text up to its kids, with the bracket ahead of them.
func (r *reader) head() api.Node {
	n := api.Node{Kind: r.name(), Attrs: r.attrs()}
	r.want("[")
	return n
}

func (r *reader) marks() []string {
	if !r.take("<") {
		return nil
	}
	marks := []string{r.name()}
	for r.take(",") {
		marks = append(marks, r.name())
	}
	r.want(">")
	return marks
}

func (r *reader) attrs() []api.Attr {
	if !r.take("(") {
		return nil
	}
	attrs := []api.Attr{r.attr()}
	for r.take(" ") {
		attrs = append(attrs, r.attr())
	}
	r.want(")")
	return attrs
}

func (r *reader) attr() api.Attr {
	name := r.name()
	r.want("=")
	return api.Attr{Name: name, Value: r.quoted()}
}

// name reads letters; whether they are a name, node.Check tells in the end.
func (r *reader) name() string {
	end := 0
	for end < len(r.rest) && 'a' <= r.rest[end] && r.rest[end] <= 'z' {
		end++
	}
	name := r.rest[:end]
	r.rest = r.rest[end:]
	return name
}

func (r *reader) quoted() string {
	r.want(`"`)
	var plain strings.Builder
	for {
		end := strings.IndexAny(r.rest, `"\`)
		if end < 0 {
			r.fail()
			return ""
		}
		plain.WriteString(r.rest[:end])
		r.rest = r.rest[end:]
		switch {
		case r.take(`"`):
			return plain.String()
		case r.take(`\"`):
			plain.WriteByte('"')
		case r.take(`\\`):
			plain.WriteByte('\\')
		default:
			r.fail()
		}
	}
}
