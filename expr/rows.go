package expr

import "math/bits"

// meaning holds the places of an expression, one a name in it, from the front on. Sets of places are bits: there are at most MaxNodes.
type meaning struct {
	at   map[string]uint32 // the places of each Name
	next []uint32          // place by place: those that a row may have right behind it
}

// ends are the places with which the rows of an expression may begin, and end, and whether the row of nothing is one of them.
type ends struct {
	first, last uint32
	none        bool
}

// has goes along word with all rows at once, so that it takes no longer than the word is long, whatever the expression.
func (m *meaning) has(rows ends, word []string) bool {
	may, ended := rows.first, rows.none
	for _, name := range word {
		here := may & m.at[name]
		if here == 0 {
			return false
		}
		may, ended = m.behind(here), here&rows.last != 0
	}
	return ended
}

// behind are the places that may come right behind one of these.
func (m *meaning) behind(places uint32) uint32 {
	var all uint32
	for ; places != 0; places &= places - 1 {
		all |= m.next[bits.TrailingZeros32(places)]
	}
	return all
}

// add puts the places of a right expression behind those that are there.
func (m *meaning) add(e Expr) ends {
	switch e.Op {
	case Name:
		return m.addName(e.Name)
	case Seq:
		return m.addRow(e.Kids)
	case Alt:
		return m.addChoice(e.Kids)
	}
	rows := m.add(e.Kids[0])
	if e.Op != Opt {
		m.link(rows.last, rows.first)
	}
	rows.none = rows.none || e.Op != Plus
	return rows
}

func (m *meaning) addName(name string) ends {
	place := uint32(1) << len(m.next)
	m.at[name] |= place
	m.next = append(m.next, 0)
	return ends{first: place, last: place}
}

func (m *meaning) addRow(kids []Expr) ends {
	all := ends{none: true}
	for _, k := range kids {
		rows := m.add(k)
		m.link(all.last, rows.first)
		if all.none {
			all.first |= rows.first
		}
		if rows.none {
			rows.last |= all.last
		}
		all.last, all.none = rows.last, all.none && rows.none
	}
	return all
}

func (m *meaning) addChoice(kids []Expr) ends {
	var all ends
	for _, k := range kids {
		rows := m.add(k)
		all = ends{all.first | rows.first, all.last | rows.last, all.none || rows.none}
	}
	return all
}

// link lets each place of first come right behind each of last.
func (m *meaning) link(last, first uint32) {
	for ; last != 0; last &= last - 1 {
		m.next[bits.TrailingZeros32(last)] |= first
	}
}
