package schema_test

import (
	"maps"
	"math/rand/v2"
	"regexp"
	"slices"
	"strings"
	"testing"

	"diptych/api"
	"diptych/expr"
	"diptych/node"
	"diptych/schema"
)

var (
	kindLine = regexp.MustCompile(`^node ([a-z]{1,8})((?: [a-z]{1,8}=(?:\*|[a-z]{1,8}(?:\|[a-z]{1,8}){0,5}))*): ([a-z()|*+? ]+)$`)
	attrPart = regexp.MustCompile(`([a-z]+)=([a-z*|]+)`)
	markLine = regexp.MustCompile(`^mark ([a-z]{1,8})$`)
	aName    = regexp.MustCompile(`[a-z]+`)
)

// isWritten tells by the words of the document whether a text is as a schema is written.
func isWritten(text string) bool {
	body, ended := strings.CutSuffix(text, "\n")
	if !ended {
		return false
	}
	var kinds, marks, used []string
	for line := range strings.SplitSeq(body, "\n") {
		if m := markLine.FindStringSubmatch(line); m != nil {
			marks = append(marks, m[1])
			continue
		}
		k := kindLine.FindStringSubmatch(line)
		if k == nil || len(marks) > 0 || !attrsWritten(k[2]) {
			return false
		}
		if _, e := expr.Parse(k[3]); e != api.OK {
			return false
		}
		kinds = append(kinds, k[1])
		used = append(used, aName.FindAllString(k[3], -1)...)
	}
	for _, s := range used {
		if s != "text" && !slices.Contains(kinds, s) {
			return false
		}
	}
	return len(kinds) > 0 && len(kinds) <= 12 && len(marks) <= 12 && distinct(kinds) && distinct(marks) && slices.IsSorted(marks)
}

func attrsWritten(s string) bool {
	var names []string
	for _, m := range attrPart.FindAllStringSubmatch(s, -1) {
		names = append(names, m[1])
		if m[2] != "*" && !distinct(strings.Split(m[2], "|")) {
			return false
		}
	}
	return distinct(names) && slices.IsSorted(names)
}

// distinct tells whether these are names, each once.
func distinct(l []string) bool {
	once := map[string]bool{}
	for _, s := range l {
		if !node.Name(s) || once[s] {
			return false
		}
		once[s] = true
	}
	return true
}

// checkRead holds what Parse tells against the words.
func checkRead(t *testing.T, text string) bool {
	t.Helper()
	s, e := schema.Parse(text)
	if !isWritten(text) {
		if e != api.ErrForm || !empty(s) {
			t.Fatalf("%q is no schema: %s, %d", text, shown(s), e)
		}
		return false
	}
	if again, f := schema.Print(s); e != api.OK || f != api.OK || again != text || !schema.Right(s) {
		t.Fatalf("%q is written again %q, %d, %d", text, again, e, f)
	}
	return true
}

// rowsOf goes through all rows of these parts, up to a length, each as one text.
func rowsOf(parts []string, most int, tell func(string)) {
	var next func(s string, left int)
	next = func(s string, left int) {
		tell(s)
		for i := 0; i < len(parts) && left > 0; i++ {
			next(s+parts[i], left-1)
		}
	}
	next("", most)
}

func TestS1ParseOfAllLines(t *testing.T) {
	lines := []string{"node a: ()\n", "node b: text*\n", "node c: a b?\n", "node a x=*: a\n", "node d x=l|r y=*: (a|d)+\n", "node b y=* x=*: ()\n", "mark a\n", "mark b\n", "mark ab\n", "mark text\n", "\n", "node a: ()"}
	right := 0
	rowsOf(lines, 4, func(text string) {
		if checkRead(t, text) {
			right++
		}
	})
	if right < 200 {
		t.Error("few schemas:", right)
	}
}

// TestS1ParseOfAllParts: what a line is made of, in all orders.
func TestS1ParseOfAllParts(t *testing.T) {
	right := 0
	rowsOf([]string{" ", "a", "b", "text", "=", "*", "|", ": ", ":", "()", "\n"}, 5, func(part string) {
		if checkRead(t, "node "+part+"\n") {
			right++
		}
		if checkRead(t, "node a"+part+": ()\n") {
			right++
		}
		if len(part) < 5 && checkRead(t, "node a: ()\nmark "+part+"\n") {
			right++
		}
	})
	if right < 100 {
		t.Error("few schemas:", right)
	}
}

// TestS1ParseOfChanges changes right texts by one byte, and by one piece that is taken out or put in twice.
func TestS1ParseOfChanges(t *testing.T) {
	const signs = "abkt =*|:()+?\n\x00\xff\r"
	right := 0
	check := func(text string) {
		if checkRead(t, text) {
			right++
		}
	}
	for _, p := range pairs() {
		text := p.text
		for i := range len(text) + 1 {
			check(text[:i])
			check(text[i:])
			for _, b := range []byte(signs) {
				check(text[:i] + string([]byte{b}) + text[i:])
				if i < len(text) {
					check(text[:i] + string([]byte{b}) + text[i+1:])
				}
			}
			for j := i + 1; j <= min(i+30, len(text)); j++ {
				check(text[:i] + text[j:])
				check(text[:j] + text[i:])
			}
		}
	}
	if right < 1000 {
		t.Error("few schemas:", right)
	}
}

// chance makes right schemas, with how they are written.
type chance struct{ r *rand.Rand }

func newChance() chance { return chance{rand.New(rand.NewPCG(8, 12))} }

// names are some names, each once.
func (c chance) names(most int) []string {
	some := map[string]bool{}
	for range c.r.IntN(most + 1) {
		s := ""
		for range 1 + c.r.IntN(1+c.r.IntN(8)) {
			s += string(rune('a' + c.r.IntN(26)))
		}
		if s != "text" {
			some[s] = true
		}
	}
	l := slices.Sorted(maps.Keys(some))
	c.r.Shuffle(len(l), func(i, j int) { l[i], l[j] = l[j], l[i] })
	return l
}

func (c chance) attrs() (decls, string) {
	var l decls
	text := ""
	names := c.names(4)
	slices.Sort(names)
	for _, s := range names {
		values := c.names(6)
		l = append(l, decl(s, values...))
		text += " " + s + "=" + strings.Join(values, "|")
		if len(values) == 0 {
			text += "*"
		}
	}
	return l, text
}

// content is an expression over these names, with how it is written, none of more than that many in one another.
func (c chance) content(names []string, deep int) (expr.Expr, string) {
	var kids []expr.Expr
	var parts []string
	for i := range c.r.IntN(4) {
		part := names[c.r.IntN(len(names))]
		e := name(part)
		if op := "n*+?"[c.r.IntN(4)]; op != 'n' {
			e, part = of(op, e), part+string(rune(op))
		}
		if i == 2 && deep > 0 {
			e, part = c.content(names, deep-1)
			e, part = of(expr.Star, of(expr.Alt, e, nothing())), "("+part+"|())*"
		}
		kids, parts = append(kids, e), append(parts, part)
	}
	switch len(kids) {
	case 0:
		return nothing(), "()"
	case 1:
		return kids[0], parts[0]
	}
	return of(expr.Seq, kids...), strings.Join(parts, " ")
}

func (c chance) schema() pair {
	names := c.names(12)
	for len(names) == 0 {
		names = c.names(12)
	}
	var p pair
	for _, s := range names {
		attrs, attrText := c.attrs()
		content, contentText := c.content(append(slices.Clone(names), "text"), 2)
		p.s.Kinds = append(p.s.Kinds, kind(s, content, attrs...))
		p.text += "node " + s + attrText + ": " + contentText + "\n"
	}
	p.s.Marks = c.names(12)
	slices.Sort(p.s.Marks)
	for _, s := range p.s.Marks {
		p.text += "mark " + s + "\n"
	}
	return p
}

func TestS4ParseOfPrint(t *testing.T) {
	c := newChance()
	for range 3000 {
		p := c.schema()
		text, e := schema.Print(p.s)
		if !schema.Right(p.s) || text != p.text || e != api.OK || !isWritten(text) {
			t.Fatalf("%q is written %q, %d", p.text, text, e)
		}
		if again, e := schema.Parse(text); e != api.OK || !same(again, p.s) {
			t.Fatalf("%q is read as %q, %d", text, shown(again), e)
		}
	}
}

func TestS2FindOfChance(t *testing.T) {
	c := newChance()
	for range 500 {
		p := c.schema()
		known := map[string]string{}
		for _, k := range p.s.Kinds {
			known[k.Name] = shownKind(k)
		}
		for _, s := range slices.Concat(slices.Collect(maps.Keys(known)), c.names(12), p.s.Marks) {
			k, ok := schema.Find(p.s, s)
			want, is := known[s]
			if ok != is || ok && shownKind(k) != want || !ok && (k.Name != "" || len(k.Attrs) > 0 || k.Content.Op != 0) {
				t.Fatalf("%q, %q: %s, %t", p.text, s, shownKind(k), ok)
			}
		}
	}
}

// small are right schemas of one or two kinds, out of a few of each thing.
func small(t *testing.T) []schema.Schema {
	var all []schema.Schema
	for _, marks := range []string{"", "mark m\n"} {
		for _, attrs := range []string{"", " x=*", " x=l", " x=r", " x=l|r", " x=r|l", " y=*"} {
			for _, a := range []string{"()", "text*", "()|text text*", "a*", "a a*", "a+", "a|a", "a"} {
				all = append(all, parsed(t, "node a"+attrs+": "+a+"\n"+marks))
				for _, b := range []string{"()", "a*", "()|a+"} {
					all = append(all,
						parsed(t, "node a"+attrs+": "+a+"\nnode b: "+b+"\n"+marks),
						parsed(t, "node b: "+b+"\nnode a"+attrs+": "+a+"\n"+marks))
				}
			}
		}
	}
	return all
}

// meant is all that a schema of kinds a and b means: told alike just if the schemas are the same. Rows of up to 3 tell the contents above apart.
func meant(s schema.Schema) string {
	out := s.Kinds[0].Name + ":"
	l := slices.Clone(s.Kinds)
	slices.SortFunc(l, func(a, b schema.Kind) int { return strings.Compare(a.Name, b.Name) })
	for _, k := range l {
		out += shownKind(kind(k.Name, expr.Expr{}, k.Attrs...))
		for n := range 4 {
			for i := range 1 << n {
				row := make([]string, n)
				for j := range row {
					row[j] = []string{"a", "text"}[i>>j&1]
				}
				if expr.Has(k.Content, row) {
					out += strings.Join(row, ",") + "!"
				}
			}
		}
	}
	return out + strings.Join(s.Marks, ",")
}

func TestS3AllSmall(t *testing.T) {
	all := small(t)
	as := make([]string, len(all))
	for i, s := range all {
		as[i] = meant(s)
	}
	alike := 0
	for i, a := range all {
		for j, b := range all {
			got := schema.Same(a, b)
			if got != (as[i] == as[j]) {
				t.Fatalf("%s and %s: %t", shown(a), shown(b), got)
			}
			if got && i != j {
				alike++
			}
		}
	}
	if alike < 500 {
		t.Error("few that are the same:", alike)
	}
}

// other is a schema written otherwise that means the same: kinds behind the root in another order, contents with nothing more in their sequences, and more of the same.
func (c chance) other(s schema.Schema) schema.Schema {
	out := schema.Schema{Kinds: slices.Clone(s.Kinds), Marks: slices.Clone(s.Marks)}
	rest := out.Kinds[1:]
	c.r.Shuffle(len(rest), func(i, j int) { rest[i], rest[j] = rest[j], rest[i] })
	for i, k := range out.Kinds {
		if e := of(expr.Alt, k.Content, k.Content); k.Content.Op != expr.Alt && expr.Right(e) && c.r.IntN(2) == 0 {
			out.Kinds[i].Content = e
		} else if e := of(expr.Seq, nothing(), k.Content); k.Content.Op != expr.Seq && expr.Right(e) {
			out.Kinds[i].Content = e
		}
	}
	return out
}

// changed is a schema with one thing changed, so that it means something else.
func (c chance) changed(s schema.Schema) schema.Schema {
	out := schema.Schema{Kinds: slices.Clone(s.Kinds), Marks: slices.Clone(s.Marks)}
	k := &out.Kinds[c.r.IntN(len(out.Kinds))]
	switch c.r.IntN(5) {
	case 0:
		out.Marks = []string{"unknown"}
	case 1:
		k.Attrs = append(slices.Clone(k.Attrs), decl("zzzzzzzz"))
	case 2:
		// No content made by chance means this row alone.
		k.Content = of(expr.Seq, slices.Repeat([]expr.Expr{name("text")}, 23)...)
	case 3:
		if len(k.Attrs) == 0 {
			k.Attrs = decls{decl("a")}
		} else {
			k.Attrs = k.Attrs[1:]
		}
	case 4:
		if len(out.Kinds) == schema.MaxKinds {
			out.Marks = []string{"unknown"}
		} else {
			out.Kinds = append(out.Kinds, kind("unknown", nothing()))
		}
	}
	return out
}

func TestS4SameAsSame(t *testing.T) {
	c := newChance()
	for range 500 {
		s := c.schema().s
		one, two, not := c.other(s), c.other(s), c.changed(s)
		if !schema.Same(s, s) || !schema.Same(s, one) || !schema.Same(one, s) || !schema.Same(one, two) {
			t.Fatalf("%s, %s, %s", shown(s), shown(one), shown(two))
		}
		if !schema.Right(not) || schema.Same(s, not) || schema.Same(not, s) || schema.Same(not, one) || schema.Same(two, not) {
			t.Fatalf("%s, %s", shown(s), shown(not))
		}
	}
}
