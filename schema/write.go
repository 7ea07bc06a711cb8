package schema

import (
	"strings"

	"diptych/expr"
)

// How what is written begins, goes on and ends.
const (
	nodeSign    = "node "
	markSign    = "mark "
	attrSign    = " "
	valueSign   = "="
	anyValue    = "*"
	betweenSign = "|"
	contentSign = ": "
	lineEnd     = "\n"
)

// written is how a right schema is written.
func written(s Schema) string {
	var out strings.Builder
	for _, k := range s.Kinds {
		writeKind(&out, k)
	}
	for _, mark := range s.Marks {
		out.WriteString(markSign + mark + lineEnd)
	}
	return out.String()
}

func writeKind(out *strings.Builder, k Kind) {
	out.WriteString(nodeSign + k.Name)
	for _, d := range k.Attrs {
		out.WriteString(attrSign + d.Name + valueSign + writtenValues(d))
	}
	content, _ := expr.Print(k.Content)
	out.WriteString(contentSign + content + lineEnd)
}

func writtenValues(d Decl) string {
	if len(d.Values) == 0 {
		return anyValue
	}
	return strings.Join(d.Values, betweenSign)
}
