package dfa

import (
	"slices"

	"diptych/expr"
)

// mostPairs is far more than two that Of told have: a search for the hardest expressions found none with over 600 states. Others may have more than the memory holds; of them some answer will do.
const mostPairs = 1 << 22

// pair is a state of each of two, -1 where there is none; or two other numbers that belong together.
type pair struct{ a, b int }

// both goes along two at once, by the names of both.
type both struct {
	a, b    Dfa
	names   []string
	columns []pair // name by name
}

func newBoth(a, b Dfa) both {
	a, b = fewNames(a), fewNames(b)
	names := slices.Concat(a.Names, b.Names)
	slices.Sort(names)
	names = slices.Compact(names)
	columns := make([]pair, len(names))
	for i, name := range names {
		columns[i] = pair{column(a, name), column(b, name)}
	}
	return both{a, b, names, columns}
}

// fewNames is d, or one without states, if Of tells none with so many names: to go through all of them at each state could take too long.
func fewNames(d Dfa) Dfa {
	if len(d.Names) > expr.MaxNodes {
		return Dfa{}
	}
	return d
}

func (t both) first() pair { return pair{first(t.a), first(t.b)} }

func (t both) next(p pair, name int) pair {
	return pair{next(t.a, p.a, t.columns[name].a), next(t.b, p.b, t.columns[name].b)}
}

func (t both) within() bool {
	met := []pair{t.first()}
	known := map[pair]int{met[0]: 0}
	for i := 0; i < len(met); i++ {
		if len(met) > mostPairs || final(t.a, met[i].a) && !final(t.b, met[i].b) {
			return false
		}
		for name := range t.names {
			to := t.next(met[i], name)
			if _, again := known[to]; to.a >= 0 && !again {
				known[to] = len(met)
				met = append(met, to)
			}
		}
	}
	return true
}

// way is a pair, with the way to it: the number of the way ahead of it, and of the name.
type way struct {
	to          pair
	ahead, name int
}

// apart goes along the rows, the shorter ones first, these in order. States that pairs have in common are one group; a pair of one group is passed over: what tells it apart tells apart one of the pairs that made the group, and the way to that one comes first.
func (t both) apart() ([]string, bool) {
	all := newGroups(1 + len(t.a.Next) + len(t.b.Next))
	all.join(t.numbers(t.first()))
	met := []way{{to: t.first()}}
	for i := 0; i < len(met); i++ {
		p := met[i].to
		if final(t.a, p.a) != final(t.b, p.b) {
			return t.row(met, i), true
		}
		for name := range t.names {
			to := t.next(p, name)
			if all.join(t.numbers(to)) {
				met = append(met, way{to, i, name})
			}
		}
	}
	return nil, false
}

// numbers are those of the states of a pair among all of both. No state of a and no state of b are one number: from neither on a row ends.
func (t both) numbers(p pair) (int, int) {
	if p.b < 0 {
		return 1 + p.a, 0
	}
	return 1 + p.a, 1 + len(t.a.Next) + p.b
}

// row is the names along a way.
func (t both) row(met []way, i int) []string {
	var row []string
	for ; i > 0; i = met[i].ahead {
		row = append(row, t.names[met[i].name])
	}
	slices.Reverse(row)
	return row
}

// groups tell of each number another one of its group; the first one of a group tells itself.
type groups []int

func newGroups(count int) groups {
	g := make(groups, count)
	for i := range g {
		g[i] = i
	}
	return g
}

// join makes one group of those of a and b; false, if they are one already.
func (g groups) join(a, b int) bool {
	a, b = g.first(a), g.first(b)
	g[b] = a
	return a != b
}

func (g groups) first(i int) int {
	for g[i] != i {
		g[i] = g[g[i]]
		i = g[i]
	}
	return i
}
