package maps_test

import (
	"math/rand"
	"slices"
	"testing"

	"diptych/maps"
)

// tokens are how many tokens the small documents have, comes how many at most come at one place.
const (
	tokens = 7
	comes  = 3
)

// smallMaps are all right maps of a document of that many tokens, from that position on.
func smallMaps(from int) []maps.Map {
	all := []maps.Map{nil}
	for pos := from; pos <= tokens; pos++ {
		for old := 0; pos+old <= tokens; old++ {
			for new := 0; new <= comes; new++ {
				if old == 0 && new == 0 {
					continue
				}
				for _, rest := range smallMaps(pos + old + 1) {
					all = append(all, slices.Concat(maps.Map{r(pos, old, new)}, rest))
				}
			}
		}
	}
	return all
}

// chanceMaps are larger ones, of documents of up to some hundred tokens.
func chanceMaps() []maps.Map {
	chance := rand.New(rand.NewSource(10))
	var all []maps.Map
	for range 2000 {
		var m maps.Map
		for pos := chance.Intn(4); len(m) < 20 && chance.Intn(12) > 0; {
			old, new := chance.Intn(5), chance.Intn(5)
			if old+new > 0 {
				m = append(m, r(pos, old, new))
			}
			pos += old + 1 + chance.Intn(5)
		}
		all = append(all, m)
	}
	return all
}

// came stands for a token that was not there ahead of the map.
const came = -1

// mapped are the tokens of a document, numbered, behind the map.
func mapped(m maps.Map, size int) []int {
	var now []int
	next := 0
	for _, r := range m {
		for ; next < r.Pos; next++ {
			now = append(now, next)
		}
		next = r.Pos + r.Old
		for range r.New {
			now = append(now, came)
		}
	}
	for ; next < size; next++ {
		now = append(now, next)
	}
	return now
}

func sizeOf(m maps.Map) int {
	size := tokens
	for _, r := range m {
		size = max(size, r.Pos+r.Old+2)
	}
	return size
}

// gap is between which of the tokens that stayed a position is: it goes behind the one ahead of it, or ahead of the one behind it.
type gap struct {
	ahead, behind int // the last token that stayed ahead of the position, -1 if none did; the first one behind it, or the size
	atAhead       bool
	atBehind      bool
}

func gapOf(now []int, size, pos int) gap {
	g := gap{ahead: -1, behind: size}
	for _, token := range now {
		if token != came && token < pos {
			g.ahead = token
		}
		if token >= pos && g.behind == size {
			g.behind = token
		}
	}
	g.atAhead, g.atBehind = g.ahead == pos-1, g.behind == pos
	return g
}

// wanted is where a position is among the tokens behind the map: beside the token beside which it was, if only that one stayed; else by its direction.
func wanted(now []int, size, pos int, right bool) int {
	g := gapOf(now, size, pos)
	toRight := right
	if g.atAhead != g.atBehind {
		toRight = g.atBehind
	}
	if toRight && g.behind == size {
		return len(now)
	}
	if toRight {
		return slices.Index(now, g.behind)
	}
	if g.ahead == -1 {
		return 0
	}
	return slices.Index(now, g.ahead) + 1
}

func allMaps(t *testing.T) []maps.Map {
	all := slices.Concat(smallMaps(0), chanceMaps())
	for _, m := range all {
		if !maps.Right(m) {
			t.Fatal(m)
		}
	}
	return all
}

// TestM2AsTokens: positions go along with the tokens beside them.
func TestM2AsTokens(t *testing.T) {
	for _, m := range allMaps(t) {
		size := sizeOf(m)
		now := mapped(m, size)
		if len(now) != size+maps.Grows(m) {
			t.Fatal(m, len(now))
		}
		for pos := range size + 1 {
			for _, right := range []bool{false, true} {
				if got := maps.To(m, pos, right); got != wanted(now, size, pos, right) {
					t.Fatal(m, pos, right, got)
				}
			}
			// Neither of the tokens beside it stayed, and something was there.
			went := pos > 0 && pos < size && !slices.Contains(now, pos-1) && !slices.Contains(now, pos)
			if maps.Lost(m, pos) != went {
				t.Fatal(m, pos, !went)
			}
		}
	}
}

// TestM1TurnAsTokens: the turned map has those tokens go that came, and those come that went; the others stay.
func TestM1TurnAsTokens(t *testing.T) {
	for _, m := range allMaps(t) {
		size := sizeOf(m)
		now := mapped(m, size)
		turned := maps.Turn(m)
		if !maps.Right(turned) || maps.Grows(turned) != -maps.Grows(m) || !slices.Equal(maps.Turn(turned), m) {
			t.Fatal(m, turned)
		}
		back := mapped(turned, len(now))
		if len(back) != size {
			t.Fatal(m, turned)
		}
		for token, from := range back {
			stayed := slices.Contains(now, token)
			if stayed != (from != came) || stayed && now[from] != token {
				t.Fatal(m, turned, back)
			}
		}
	}
}

// TestM3Order: of two positions the one ahead does not come behind the other one.
func TestM3Order(t *testing.T) {
	for _, m := range allMaps(t) {
		for pos := -2; pos < sizeOf(m)+2; pos++ {
			left, right := maps.To(m, pos, false), maps.To(m, pos, true)
			if left > right || left > maps.To(m, pos+1, false) || right > maps.To(m, pos+1, true) {
				t.Fatal(m, pos)
			}
		}
	}
}

// TestM3Back: a position that is not lost comes back, if it did not go where, the other way round, something comes.
func TestM3Back(t *testing.T) {
	for _, m := range allMaps(t) {
		turned := maps.Turn(m)
		for pos := -1; pos < sizeOf(m)+2; pos++ {
			if maps.Lost(m, pos) {
				continue
			}
			for _, right := range []bool{false, true} {
				there := maps.To(m, pos, right)
				left, back := maps.To(turned, there, false), maps.To(turned, there, true)
				something := slices.ContainsFunc(turned, func(r maps.Range) bool { return r.Pos == there && r.Old == 0 })
				if !something && (left != pos || back != pos) || left > pos || back < pos {
					t.Fatal(m, pos, right, there, left, back)
				}
			}
		}
	}
}

// TestM2ThroughIsOneByOne: rows of maps, and parts of them behind one another.
func TestM2ThroughIsOneByOne(t *testing.T) {
	all := chanceMaps()
	for i := range len(all) - 3 {
		row := all[i : i+3]
		for pos := -1; pos < 60; pos++ {
			for _, right := range []bool{false, true} {
				want := maps.To(row[2], maps.To(row[1], maps.To(row[0], pos, right), right), right)
				if got := maps.Through(row, pos, right); got != want || maps.Through(row[1:], maps.To(row[0], pos, right), right) != want {
					t.Fatal(row, pos, right, got, want)
				}
			}
		}
	}
}

// TestM1RightIsWhatThereIs: of all short rows of ranges just those are right that are made as maps of a document.
func TestM1RightIsWhatThereIs(t *testing.T) {
	known := map[[3]maps.Range]bool{}
	for _, m := range smallMaps(0) {
		if len(m) <= 3 {
			known[row(m)] = true
		}
	}
	for _, m := range rowsOf(3, ranges()) {
		if maps.Right(m) != known[row(m)] {
			t.Fatal(m, maps.Right(m))
		}
	}
}

// nothing fills a row up.
var nothing = r(-9, -9, -9)

func row(m maps.Map) [3]maps.Range {
	full := [3]maps.Range{nothing, nothing, nothing}
	copy(full[:], m)
	return full
}

// ranges are those of positions and sizes of up to 2, and some that are wrong.
func ranges() []maps.Range {
	all := []maps.Range{r(-1, 1, 1), r(1, -1, 1), r(1, 1, -1)}
	for pos := range 6 {
		for old := range 3 {
			all = append(all, r(pos, old, 0), r(pos, old, 2))
		}
	}
	return all
}

func rowsOf(most int, of []maps.Range) []maps.Map {
	all := []maps.Map{nil}
	if most == 0 {
		return all
	}
	for _, rest := range rowsOf(most-1, of) {
		for _, r := range of {
			all = append(all, slices.Concat(maps.Map{r}, rest))
		}
	}
	return all
}
