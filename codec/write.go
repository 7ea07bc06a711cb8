package codec

import (
	"strings"

	"diptych/api"
)

// written is only asked of nodes that were checked: these are not too deep to walk.
func written(l []api.Node) string {
	var out strings.Builder
	writeAll(&out, l)
	return out.String()
}

func writeAll(out *strings.Builder, l []api.Node) {
	for _, n := range l {
		if n.Kind == api.TextKind {
			writeQuoted(out, n.Text)
			writeHead(out, n)
			continue
		}
		writeHead(out, n)
		out.WriteByte('[')
		writeAll(out, n.Kids)
		out.WriteByte(']')
	}
}

func writeHead(out *strings.Builder, n api.Node) {
	if n.Kind == api.TextKind {
		writeMarks(out, n.Marks)
		return
	}
	out.WriteString(n.Kind)
	writeAttrs(out, n.Attrs)
}

func writeMarks(out *strings.Builder, l []string) {
	if len(l) == 0 {
		return
	}
	out.WriteByte('<')
	for i, mark := range l {
		if i > 0 {
			out.WriteByte(',')
		}
		out.WriteString(mark)
	}
	out.WriteByte('>')
}

func writeAttrs(out *strings.Builder, l []api.Attr) {
	if len(l) == 0 {
		return
	}
	out.WriteByte('(')
	for i, attr := range l {
		if i > 0 {
			out.WriteByte(' ')
		}
		out.WriteString(attr.Name)
		out.WriteByte('=')
		writeQuoted(out, attr.Value)
	}
	out.WriteByte(')')
}

// writeQuoted goes by bytes, so that what is no UTF-8 stays as it is.
func writeQuoted(out *strings.Builder, s string) {
	out.WriteByte('"')
	for i := range len(s) {
		if s[i] == '"' || s[i] == '\\' {
			out.WriteByte('\\')
		}
		out.WriteByte(s[i])
	}
	out.WriteByte('"')
}
