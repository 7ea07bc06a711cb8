package dfa

// least has one state for all of d that mean the same rows from there on. From each state of d a final one can be reached, and states are numbered as they are met.
func least(d Dfa) Dfa {
	classes, count := split(make([]int, len(d.Next)), func(state int) int {
		if d.Final[state] {
			return 1
		}
		return 0
	})
	for before := 0; before < count; {
		before = count
		for column := range d.Names {
			classes, count = split(classes, func(state int) int {
				return classOf(classes, d.Next[state][column])
			})
		}
	}
	return merged(d, classes, count)
}

// split parts the states of each class where second tells them apart, and tells how many classes there are then. They are numbered as they are met, so that at last their numbers are those of the states of the least one.
func split(classes []int, second func(state int) int) ([]int, int) {
	numbers := map[pair]int{}
	out := make([]int, len(classes))
	for state, class := range classes {
		key := pair{class, second(state)}
		n, known := numbers[key]
		if !known {
			n = len(numbers)
			numbers[key] = n
		}
		out[state] = n
	}
	return out, len(numbers)
}

func classOf(classes []int, state int) int {
	if state < 0 {
		return -1
	}
	return classes[state]
}

// merged has one state for each class: what holds for the first one of it holds for all.
func merged(d Dfa, classes []int, count int) Dfa {
	out := Dfa{Names: d.Names, Next: make([][]int, 0, count), Final: make([]bool, 0, count)}
	for state, class := range classes {
		if class < len(out.Next) {
			continue
		}
		row := make([]int, len(d.Names))
		for column, to := range d.Next[state] {
			row[column] = classOf(classes, to)
		}
		out.Next = append(out.Next, row)
		out.Final = append(out.Final, d.Final[state])
	}
	return out
}
