package maps

// around is the range in which a position is, its first and its last place among them, and the shift there; else the shift at the position.
func around(m Map, pos int) (Range, int, bool) {
	shift := 0
ranges:
	for _, r := range m {
		switch {
		case r.last() < pos:
			shift += r.grows()
		case r.Pos > pos:
			// Those that follow begin further behind still.
			break ranges
		default:
			return r, shift, true
		}
	}
	return Range{}, shift, false
}

// sends tells whether a position in the range goes behind what came.
func (r Range) sends(pos int, right bool) bool {
	// Of a range that took nothing away the first place is the last one too, so neither of them decides.
	switch {
	case r.Old == 0:
		return right
	case pos == r.Pos:
		return false
	case pos == r.last():
		return true
	}
	return right
}

func (r Range) last() int { return r.Pos + r.Old }

func (r Range) grows() int { return r.New - r.Old }

func (r Range) bounded() bool {
	return inBounds(r.Pos) && inBounds(r.Old) && inBounds(r.New) && (r.Old > 0 || r.New > 0)
}

func inBounds(n int) bool { return n >= 0 && n <= most }
