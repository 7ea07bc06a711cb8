package dfa

import (
	"slices"
	"sync"

	"diptych/expr"
)

// set has a bit for each place of an expression, and one for the end.
type set uint32

// end is in a set where a row may end. It is no place: these have the lowest bits, one a number, and there are at most expr.MaxNodes numbers.
const end = set(1) << 31

// machine holds the places of an expression: one a name in it.
type machine struct {
	names []string
	of    []set // name by name: its places
	after []set // place by place: what may come behind it
	start set   // what may come first

	once  sync.Once
	table [expr.MaxNodes / 8][256]set // for each eight places: what may come behind those of them that are asked for
}

func newMachine(e expr.Expr) *machine {
	names := expr.Names(e)
	m := &machine{names: names, of: make([]set, len(names))}
	m.start = m.add(e, end)
	return m
}

// add puts in the places of e, behind whose rows then may come; it tells what may come where e begins.
func (m *machine) add(e expr.Expr, then set) set {
	switch e.Op {
	case expr.Name:
		return m.addName(e.Name, then)
	case expr.Seq:
		for _, k := range slices.Backward(e.Kids) {
			then = m.add(k, then)
		}
		return then
	case expr.Alt:
		var begin set
		for _, k := range e.Kids {
			begin |= m.add(k, then)
		}
		return begin
	case expr.Star:
		return m.addAgain(e.Kids[0], then) | then
	case expr.Plus:
		return m.addAgain(e.Kids[0], then)
	}
	return m.add(e.Kids[0], then) | then
}

func (m *machine) addName(name string, then set) set {
	place := m.number(then)
	i, _ := slices.BinarySearch(m.names, name)
	m.of[i] |= place
	return place
}

// addAgain puts in the places of e, behind whose rows those of e may come again. With what these begin is known only when e is put in; until then a number stands for it.
func (m *machine) addAgain(e expr.Expr, then set) set {
	again := m.number(0)
	begin := m.add(e, then|again) &^ again
	for i, behind := range m.after {
		if behind&again != 0 {
			m.after[i] = behind&^again | begin
		}
	}
	return begin
}

func (m *machine) number(then set) set {
	m.after = append(m.after, then)
	return 1 << (len(m.after) - 1)
}

// behind is what may come behind these places.
func (m *machine) behind(places set) set {
	m.once.Do(m.fill)
	var all set
	for i := range m.table {
		all |= m.table[i][places>>(8*i)&0xff]
	}
	return all
}

func (m *machine) fill() {
	for i, behind := range m.after {
		row, place := &m.table[i/8], 1<<(i%8)
		for lower := range place {
			row[place|lower] = row[lower] | behind
		}
	}
}

// states has a state for each set that rows lead to, numbered as they are met. Each place leads on to an end, so that a set of nothing is behind no place, and is the set of no state.
func (m *machine) states() Dfa {
	d := Dfa{Names: m.names}
	met := []set{m.start}
	numbers := map[set]int{m.start: 0}
	for i := 0; i < len(met); i++ {
		row := make([]int, len(m.of))
		for column, places := range m.of {
			to := m.behind(met[i] & places)
			n, known := numbers[to]
			if to == 0 {
				n = -1
			} else if !known {
				n = len(met)
				numbers[to] = n
				met = append(met, to)
			}
			row[column] = n
		}
		d.Next = append(d.Next, row)
		d.Final = append(d.Final, met[i]&end != 0)
	}
	return d
}
