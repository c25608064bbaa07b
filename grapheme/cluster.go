package grapheme

import "iter"

// cluster is the text of a cluster, and the offset of the boundary behind it.
type cluster struct {
	to   int
	text string
}

// clusters yields the clusters of a valid string in order.
func clusters(s string) iter.Seq[cluster] {
	return func(yield func(cluster) bool) {
		table := classTable()
		var before state
		start, unit := 0, 0
		for at, point := range s {
			class := classIn(table, int(point))
			if unit > 0 && before.boundary(class) {
				if !yield(cluster{unit, s[start:at]}) {
					return
				}
				start = at
			}
			before.add(class)
			unit++
		}
		if unit > 0 {
			yield(cluster{unit, s[start:]})
		}
	}
}

// state is what the rules need to know of the units before an offset.
type state struct {
	last    int  // the class of the last unit
	picture bool // they end with a Pictographic unit and any number of Extend (rule 6)
	joined  bool // they end with such a sequence and a Joiner (rule 6)
	oddFlag bool // they end with an odd number of Regional units (rule 7)
}

// add goes on behind a unit.
func (s *state) add(class int) {
	s.joined = s.picture && class == Joiner
	s.picture = class == Pictographic || s.picture && class == Extend
	s.oddFlag = class == Regional && !s.oddFlag
	s.last = class
}

// boundary reports whether there is a boundary before a unit of class b.
func (s *state) boundary(b int) bool {
	switch {
	case s.last == CR && b == LF:
		return false
	case isControl(s.last) || isControl(b):
		return true
	case isSyllable(s.last, b):
		return false
	case b == Extend || b == Joiner || b == Spacing:
		return false
	case s.last == Prepend:
		return false
	case s.joined && b == Pictographic:
		return false
	case s.oddFlag && b == Regional:
		return false
	}
	return true
}

func isControl(class int) bool { return class == CR || class == LF || class == Control }

// isSyllable reports whether two classes stand together in a syllable of Hangul (rule 3).
func isSyllable(a, b int) bool {
	switch a {
	case L:
		return b == L || b == V || b == LV || b == LVT
	case LV, V:
		return b == V || b == T
	case LVT, T:
		return b == T
	}
	return false
}
