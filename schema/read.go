package schema

import (
	"strings"

	"diptych/api"
	"diptych/expr"
)

// read reads a schema, line by line. What it tells may still not be right, but it stops at the first attribute that is not, and at the first line too many, so that no text makes it larger than a schema may be.
func read(text string) (Schema, bool) {
	var s Schema
	for text != "" {
		line, rest, ended := strings.Cut(text, lineEnd)
		if !ended || !addLine(&s, line) {
			return Schema{}, false
		}
		text = rest
	}
	return s, true
}

func addLine(s *Schema, line string) bool {
	if mark, ok := strings.CutPrefix(line, markSign); ok {
		s.Marks = append(s.Marks, mark)
		return len(s.Marks) <= MaxKinds
	}
	k, ok := readKind(line)
	s.Kinds = append(s.Kinds, k)
	return ok && len(s.Marks) == 0 && len(s.Kinds) <= MaxKinds
}

func readKind(line string) (Kind, bool) {
	line, isKind := strings.CutPrefix(line, nodeSign)
	head, content, hasContent := strings.Cut(line, contentSign)
	if !isKind || !hasContent {
		return Kind{}, false
	}
	name, attrs, more := strings.Cut(head, attrSign)
	k := Kind{Name: name}
	for more {
		var attr string
		attr, attrs, more = strings.Cut(attrs, attrSign)
		d, ok := readDecl(attr)
		if !ok || !rightBehind(k.Attrs, d) {
			return Kind{}, false
		}
		k.Attrs = append(k.Attrs, d)
	}
	e, f := expr.Parse(content)
	k.Content = e
	return k, f == api.OK
}

func readDecl(attr string) (Decl, bool) {
	name, values, ok := strings.Cut(attr, valueSign)
	if !ok || strings.Count(values, betweenSign) >= MaxValues {
		return Decl{}, false
	}
	d := Decl{Name: name}
	if values != anyValue {
		d.Values = strings.Split(values, betweenSign)
	}
	return d, true
}
