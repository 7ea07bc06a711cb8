package maps_test

import (
	"math"
	"slices"
	"testing"

	"diptych/maps"
)

const most = 1 << 20

func r(pos, old, new int) maps.Range { return maps.Range{Pos: pos, Old: old, New: new} }

// mixed has something put in, something else in its place, and something taken away.
var mixed = maps.Map{r(1, 0, 2), r(3, 2, 5), r(8, 3, 0)}

func TestM1Right(t *testing.T) {
	for i, c := range []struct {
		m    maps.Map
		want bool
	}{
		{nil, true},
		{maps.Map{}, true},
		{maps.Map{r(0, 0, 1)}, true},
		{maps.Map{r(0, 1, 0)}, true},
		{maps.Map{r(7, 3, 4)}, true},
		{mixed, true},

		// Nothing in the place of nothing.
		{maps.Map{r(0, 0, 0)}, false},
		{maps.Map{r(5, 0, 0)}, false},
		{maps.Map{r(0, 1, 1), r(5, 0, 0)}, false},
		{maps.Map{r(5, 0, 0), r(6, 1, 1)}, false},

		// Bounds, of each number.
		{maps.Map{r(most, 1, 0)}, true},
		{maps.Map{r(most+1, 1, 0)}, false},
		{maps.Map{r(0, most, 0)}, true},
		{maps.Map{r(0, most+1, 0)}, false},
		{maps.Map{r(0, 0, most)}, true},
		{maps.Map{r(0, 0, most+1)}, false},
		{maps.Map{r(most, most, most)}, true},
		{maps.Map{r(-1, 2, 2)}, false},
		{maps.Map{r(2, -1, 2)}, false},
		{maps.Map{r(2, 2, -1)}, false},
		{maps.Map{r(2, 2, 2), r(9, -1, 2)}, false},
		{maps.Map{r(0, 0, 1), r(most, 0, 1)}, true},
		{maps.Map{r(0, 0, 1), r(most+1, 0, 1)}, false},

		// Each begins behind the one ahead of it.
		{maps.Map{r(0, 0, 1), r(0, 0, 1)}, false},
		{maps.Map{r(0, 0, 1), r(1, 0, 1)}, true},
		{maps.Map{r(0, 2, 0), r(1, 1, 0)}, false},
		{maps.Map{r(0, 2, 0), r(2, 1, 0)}, false},
		{maps.Map{r(0, 2, 0), r(3, 1, 0)}, true},
		{maps.Map{r(5, 1, 1), r(3, 1, 1)}, false},
		{maps.Map{r(5, 0, 1), r(3, 1, 1)}, false},
		{maps.Map{r(0, 0, 1), r(2, 2, 0), r(4, 0, 1)}, false},
		{maps.Map{r(0, 0, 1), r(2, 2, 0), r(5, 0, 1)}, true},
		// It is the tokens that went that count, not those that came.
		{maps.Map{r(0, 1, 9), r(2, 1, 1)}, true},
		{maps.Map{r(0, 9, 1), r(2, 1, 1)}, false},
	} {
		if got := maps.Right(c.m); got != c.want {
			t.Error(i, c.m, got)
		}
	}
}

// TestM1RightDoesNotGoRound: sums of what is far too large are not taken for small ones.
func TestM1RightDoesNotGoRound(t *testing.T) {
	odd := []int{math.MinInt, math.MinInt + 1, math.MinInt32, -most, math.MaxInt32, 1 << 32, 1<<32 + 1, math.MaxInt - 1, math.MaxInt}
	for _, n := range odd {
		for _, wrong := range []maps.Range{r(n, 1, 1), r(1, n, 1), r(1, 1, n), r(n, n, n), r(1, n, n), r(n, -n, 1)} {
			for _, m := range []maps.Map{{wrong}, {r(0, 0, 1), wrong}, {wrong, r(9, 1, 1)}, {wrong, r(9, 1, 1), r(most, 1, 1)}} {
				if maps.Right(m) {
					t.Error(m)
				}
			}
		}
	}
}

func TestM1Grows(t *testing.T) {
	for i, c := range []struct {
		m    maps.Map
		want int
	}{
		{nil, 0},
		{maps.Map{r(3, 0, 2)}, 2},
		{maps.Map{r(3, 2, 0)}, -2},
		{maps.Map{r(3, 2, 2)}, 0},
		{mixed, 2},
		{maps.Map{r(0, 3, 1), r(5, 4, 0), r(20, 0, 1)}, -5},
		{maps.Map{r(0, 0, most), r(1, 0, most), r(2, 0, most)}, 3 * most},
		{maps.Map{r(0, most, 0)}, -most},
	} {
		if got := maps.Grows(c.m); got != c.want {
			t.Error(i, c.m, got)
		}
	}
}

func TestM1Turn(t *testing.T) {
	for i, c := range []struct{ m, want maps.Map }{
		{nil, nil},
		{maps.Map{}, nil},
		{maps.Map{r(3, 0, 2)}, maps.Map{r(3, 2, 0)}},
		{maps.Map{r(3, 2, 0)}, maps.Map{r(3, 0, 2)}},
		{maps.Map{r(3, 2, 5)}, maps.Map{r(3, 5, 2)}},
		{mixed, maps.Map{r(1, 2, 0), r(5, 5, 2), r(13, 0, 3)}},
		{maps.Map{r(0, 3, 1), r(5, 4, 0), r(20, 0, 1)}, maps.Map{r(0, 1, 3), r(3, 0, 4), r(14, 1, 0)}},
		// What is turned may begin behind the bound: its numbers are as the document tells all the same.
		{maps.Map{r(0, 0, most), r(most, 1, 0)}, maps.Map{r(0, most, 0), r(2*most, 0, 1)}},
	} {
		got := maps.Turn(c.m)
		if !slices.Equal(got, c.want) {
			t.Error(i, c.m, got)
		}
		if back := maps.Turn(got); !slices.Equal(back, c.m) {
			t.Error(i, c.m, back)
		}
	}
}

// TestM2To: of each map what the positions from -1 on become, to the left and to the right, and whether they are lost.
func TestM2To(t *testing.T) {
	for i, c := range []struct {
		m           maps.Map
		left, right []int
		lost        []int
	}{
		{nil, []int{-1, 0, 1, 2}, []int{-1, 0, 1, 2}, nil},
		// Put in: to the left ahead of it, to the right behind it.
		{maps.Map{r(1, 0, 2)}, []int{-1, 0, 1, 4, 5}, []int{-1, 0, 3, 4, 5}, nil},
		{maps.Map{r(0, 0, 2)}, []int{-1, 0, 3, 4}, []int{-1, 2, 3, 4}, nil},
		// Taken away.
		{maps.Map{r(1, 1, 0)}, []int{-1, 0, 1, 1, 2}, []int{-1, 0, 1, 1, 2}, nil},
		{maps.Map{r(1, 2, 0)}, []int{-1, 0, 1, 1, 1, 2}, []int{-1, 0, 1, 1, 1, 2}, []int{2}},
		{maps.Map{r(0, 3, 0)}, []int{-1, 0, 0, 0, 0, 1}, []int{-1, 0, 0, 0, 0, 1}, []int{1, 2}},
		// In the place of others: the first place stays ahead of what came, the last one behind it.
		{maps.Map{r(3, 2, 5)}, []int{-1, 0, 1, 2, 3, 3, 8, 9}, []int{-1, 0, 1, 2, 3, 8, 8, 9}, []int{4}},
		{maps.Map{r(1, 1, 1)}, []int{-1, 0, 1, 2, 3}, []int{-1, 0, 1, 2, 3}, nil},
		{maps.Map{r(1, 1, 3)}, []int{-1, 0, 1, 4, 5}, []int{-1, 0, 1, 4, 5}, nil},
		{maps.Map{r(0, 3, 1)}, []int{-1, 0, 0, 0, 1, 2}, []int{-1, 0, 1, 1, 1, 2}, []int{1, 2}},
		// Behind one another.
		{mixed, []int{-1, 0, 1, 4, 5, 5, 10, 11, 12, 13, 13, 13, 13, 14}, []int{-1, 0, 3, 4, 5, 10, 10, 11, 12, 13, 13, 13, 13, 14}, []int{4, 9, 10}},
		{maps.Map{r(0, 2, 0), r(3, 0, 1)}, []int{-1, 0, 0, 0, 1, 3, 4}, []int{-1, 0, 0, 0, 2, 3, 4}, []int{1}},
		{maps.Map{r(0, 0, 1), r(1, 2, 1)}, []int{-1, 0, 2, 2, 3, 4}, []int{-1, 1, 2, 3, 3, 4}, []int{2}},
		{maps.Map{r(0, 0, 1), r(1, 0, 1)}, []int{-1, 0, 2, 4, 5}, []int{-1, 1, 3, 4, 5}, nil},
	} {
		for j := range c.left {
			pos := j - 1
			if left, right := maps.To(c.m, pos, false), maps.To(c.m, pos, true); left != c.left[j] || right != c.right[j] {
				t.Error(i, c.m, pos, left, right)
			}
			if lost := maps.Lost(c.m, pos); lost != slices.Contains(c.lost, pos) {
				t.Error(i, c.m, pos, lost)
			}
		}
	}
}

// TestM2FarAway: positions far from each range, also those that no document has.
func TestM2FarAway(t *testing.T) {
	m := maps.Map{r(0, 3, 1), r(most, most, most)}
	for i, c := range []struct {
		pos, left, right int
		lost             bool
	}{
		{math.MinInt, math.MinInt, math.MinInt, false},
		{-most, -most, -most, false},
		{-1, -1, -1, false},
		{most - 1, most - 3, most - 3, false},
		{most, most - 2, most - 2, false},
		{most + 1, most - 2, 2*most - 2, true},
		{2*most - 1, most - 2, 2*most - 2, true},
		{2 * most, 2*most - 2, 2*most - 2, false},
		{2*most + 1, 2*most - 1, 2*most - 1, false},
		{math.MaxInt, math.MaxInt - 2, math.MaxInt - 2, false},
	} {
		if left, right := maps.To(m, c.pos, false), maps.To(m, c.pos, true); left != c.left || right != c.right {
			t.Error(i, c.pos, left, right)
		}
		if lost := maps.Lost(m, c.pos); lost != c.lost {
			t.Error(i, c.pos, lost)
		}
	}
}

func TestM2Through(t *testing.T) {
	in, out := maps.Map{r(1, 0, 2)}, maps.Map{r(1, 2, 0)}
	for i, c := range []struct {
		l                []maps.Map
		pos, left, right int
	}{
		{nil, 5, 5, 5},
		{nil, -5, -5, -5},
		{[]maps.Map{nil, {}, nil}, 5, 5, 5},
		{[]maps.Map{in}, 1, 1, 3},
		{[]maps.Map{in, out}, 1, 1, 1},
		{[]maps.Map{out, in}, 1, 1, 3},
		{[]maps.Map{out, in}, 2, 1, 3},
		{[]maps.Map{out, in}, 3, 1, 3},
		{[]maps.Map{in, in}, 1, 1, 5},
		{[]maps.Map{in, nil, in}, 0, 0, 0},
		// The order counts.
		{[]maps.Map{{r(3, 2, 5)}, {r(5, 0, 1)}}, 4, 3, 9},
		{[]maps.Map{{r(5, 0, 1)}, {r(3, 2, 5)}}, 4, 3, 8},
		{[]maps.Map{{r(5, 0, 1)}, {r(3, 2, 5)}}, 5, 8, 9},
		{[]maps.Map{mixed, maps.Turn(mixed), nil}, 6, 6, 6},
		{[]maps.Map{mixed, maps.Turn(mixed)}, 4, 3, 5},
	} {
		if left, right := maps.Through(c.l, c.pos, false), maps.Through(c.l, c.pos, true); left != c.left || right != c.right {
			t.Error(i, c.l, c.pos, left, right)
		}
	}
}

// TestExample is the table of the chapter.
func TestExample(t *testing.T) {
	m := maps.Map{r(3, 2, 5)}
	for _, c := range []struct{ pos, left, right int }{{3, 3, 3}, {4, 3, 8}, {5, 8, 8}, {6, 9, 9}} {
		if left, right := maps.To(m, c.pos, false), maps.To(m, c.pos, true); left != c.left || right != c.right {
			t.Error(c.pos, left, right)
		}
	}
}
