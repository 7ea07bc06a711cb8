package maps_test

import (
	"math"
	"slices"
	"sync"
	"testing"

	"diptych/maps"
)

// largest is the right map of the most ranges: a token put in ahead of each.
func largest() maps.Map {
	m := make(maps.Map, most+1)
	for i := range m {
		m[i] = r(i, 0, 1)
	}
	return m
}

// TestP1Large: maps of as many ranges as there are.
func TestP1Large(t *testing.T) {
	m := largest()
	if !maps.Right(m) || maps.Grows(m) != most+1 || maps.Lost(m, most) {
		t.Error(maps.Right(m), maps.Grows(m))
	}
	if left, right := maps.To(m, most, false), maps.To(m, most, true); left != 2*most || right != 2*most+1 {
		t.Error(left, right)
	}
	if turned := maps.Turn(m); len(turned) != len(m) || turned[most] != r(2*most, 1, 0) {
		t.Error(len(turned))
	}
	more := append(slices.Clone(m), r(most+1, 0, 1))
	if maps.Right(more) || maps.Right(slices.Concat(m, m)) {
		t.Error("right")
	}
	if pos := maps.Through(slices.Repeat([]maps.Map{mixed}, 1<<20), 12, true); pos != 12+2<<20 {
		t.Error(pos)
	}
}

// extremes are numbers of all sizes, and those beside where an int goes round.
var extremes = []int{math.MinInt, math.MinInt + 1, -most, -1, 0, 1, 2, most, most + 1, math.MaxInt/2 + 1, math.MaxInt - 1, math.MaxInt}

// TestP1Anything: maps that are not right get some answer.
func TestP1Anything(t *testing.T) {
	for _, pos := range extremes {
		for _, old := range extremes {
			for _, new := range extremes {
				wrong := r(pos, old, new)
				for _, m := range []maps.Map{{wrong}, {wrong, wrong}, {mixed[1], wrong}, {wrong, mixed[1]}} {
					bounded := 0 <= pos && pos <= most && 0 <= old && old <= most && 0 <= new && new <= most && old+new > 0
					if !bounded && maps.Right(m) {
						t.Error(m)
					}
					maps.Grows(m)
					if turned := maps.Turn(m); len(turned) != len(m) {
						t.Error(m, turned)
					}
					for _, at := range extremes {
						maps.To(m, at, false)
						maps.To(m, at, true)
						maps.Lost(m, at)
						maps.Through([]maps.Map{m, m}, at, true)
					}
				}
			}
		}
	}
}

// TestP6GoesRound: a position of a document that cannot be goes round, as an int does.
func TestP6GoesRound(t *testing.T) {
	if pos := maps.To(maps.Map{r(0, 0, 1)}, math.MaxInt, false); pos != math.MinInt {
		t.Error(pos)
	}
}

func TestP1Nothing(t *testing.T) {
	if !maps.Right(nil) || maps.Grows(nil) != 0 || len(maps.Turn(nil)) != 0 || maps.Lost(nil, 0) {
		t.Error("of nothing")
	}
	if maps.To(nil, 3, true) != 3 || maps.Through(nil, 3, true) != 3 {
		t.Error("to")
	}
	if maps.Right(maps.Map{{}}) {
		t.Error("a range of nothing")
	}
}

// TestP3NothingIsWrittenInto: what is handed in stays as it was, and what is behind it is not read.
func TestP3NothingIsWrittenInto(t *testing.T) {
	full := append(slices.Clone(mixed), r(2, 0, 9), r(-1, -1, -1))
	was := slices.Clone(full)
	m := full[:len(mixed)]
	rows := []maps.Map{m, m, {r(0, 0, 7)}}
	if !maps.Right(m) || maps.Grows(m) != 2 || maps.To(m, 12, true) != 14 || maps.Lost(m, 12) || maps.Through(rows[:2], 12, true) != 16 {
		t.Error(m)
	}
	turned := maps.Turn(m)
	_ = append(turned, r(7, 7, 7), r(7, 7, 7))
	if !slices.Equal(turned, maps.Map{r(1, 2, 0), r(5, 5, 2), r(13, 0, 3)}) {
		t.Error(turned)
	}
	if !slices.Equal(full, was) || !slices.Equal(rows[2], maps.Map{r(0, 0, 7)}) {
		t.Error(full, rows)
	}
}

// TestP3AnswersAreNew: what is done with one answer is not seen in another one, nor in what was handed in.
func TestP3AnswersAreNew(t *testing.T) {
	m := slices.Clone(mixed)
	first := maps.Turn(m)
	second := maps.Turn(m)
	_ = append(first, r(7, 7, 7))
	for i := range first {
		first[i] = r(7, 7, 7)
	}
	want := maps.Map{r(1, 2, 0), r(5, 5, 2), r(13, 0, 3)}
	if !slices.Equal(m, mixed) || !slices.Equal(second, want) || !slices.Equal(maps.Turn(m), want) {
		t.Error(m, second)
	}
	m[0] = r(0, 0, 1)
	if !slices.Equal(second, want) {
		t.Error(second)
	}
}

// TestP3NothingIsKept: a map that is changed between two calls is another one.
func TestP3NothingIsKept(t *testing.T) {
	m := maps.Map{r(1, 2, 0), r(4, 0, 2)}
	if maps.To(m, 2, true) != 1 || !maps.Lost(m, 2) || maps.Grows(m) != 0 {
		t.Error(m)
	}
	m[0] = r(1, 1, 3)
	if maps.To(m, 2, true) != 4 || maps.Lost(m, 2) || maps.Grows(m) != 4 || !maps.Right(m) {
		t.Error(m)
	}
	m[1].Pos = 2
	if maps.Right(m) {
		t.Error(m)
	}
}

// TestP4TheSameAgain: also where many ask at once.
func TestP4TheSameAgain(t *testing.T) {
	var all sync.WaitGroup
	for range 8 {
		all.Go(func() {
			for range 200 {
				turned := maps.Turn(mixed)
				if !maps.Right(turned) || maps.To(mixed, 4, true) != 10 || maps.To(turned, 6, true) != 5 || !maps.Lost(mixed, 9) || maps.Through([]maps.Map{mixed, turned}, 6, false) != 6 {
					t.Error(turned)
				}
			}
		})
	}
	all.Wait()
}
