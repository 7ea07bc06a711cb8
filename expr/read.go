package expr

import "strings"

// reader reads what is left of a text. What it cannot read is to it the Expr of nothing, which is not right, so that no expression with it in it is.
type reader struct {
	rest string
	left int // how many units may still be read: each is an expression of its own, or one in ( )
}

func read(s string) Expr {
	r := &reader{rest: s, left: MaxNodes}
	return r.choice()
}

func (r *reader) choice() Expr { return r.several(Alt, "|", r.row) }

func (r *reader) row() Expr { return r.several(Seq, " ", r.repeated) }

// several reads parts as part does; one alone is no expression around it.
func (r *reader) several(op byte, between string, part func() Expr) Expr {
	kids := []Expr{part()}
	for r.left > 0 && r.skip(between) {
		kids = append(kids, part())
	}
	if len(kids) == 1 {
		return kids[0]
	}
	return Expr{Op: op, Kids: kids}
}

func (r *reader) repeated() Expr {
	e := r.unit()
	if r.rest == "" || !repeats(r.rest[0]) {
		return e
	}
	op := r.rest[0]
	r.rest = r.rest[1:]
	return Expr{Op: op, Kids: []Expr{e}}
}

// unit reads a name, (), or what stands in ( ).
func (r *reader) unit() Expr {
	r.left--
	switch {
	case r.left < 0:
		return Expr{}
	case r.skip("()"):
		return Expr{Op: Seq}
	case r.skip("("):
		return r.closed()
	}
	return r.name()
}

// closed reads what stands ahead of a ), and that.
func (r *reader) closed() Expr {
	e := r.choice()
	if !r.skip(")") {
		return Expr{}
	}
	return e
}

func (r *reader) name() Expr {
	n := 0
	for n < len(r.rest) && r.rest[n] >= 'a' && r.rest[n] <= 'z' {
		n++
	}
	e := Expr{Op: Name, Name: r.rest[:n]}
	r.rest = r.rest[n:]
	return e
}

func (r *reader) skip(sign string) (found bool) {
	r.rest, found = strings.CutPrefix(r.rest, sign)
	return found
}
