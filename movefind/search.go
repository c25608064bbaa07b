package movefind

import (
	"iter"
	"slices"

	"obelus/api"
)

// search finds common ranges of the source units and the target units of a revision.
type search struct{ sources, targets []candidate }

// candidate is a source unit or a target unit: where it stands, whether it directly follows the one before it in the list, the number of its content, and whether it belongs to a moved range that was found.
type candidate struct {
	at      api.Pos
	follows bool
	content int
	isTaken bool
}

// common is a common range: its length, and the indices of its last units on both sides.
type common struct{ length, source, target int }

func newSearch(d api.Document, rev, least int) (*search, api.Errno) {
	switch {
	case !hasRev(d, rev):
		return nil, api.ErrRevision
	case least < 1:
		return nil, api.ErrRange
	}
	sources, targets := units(d, sourceOf(rev)), units(d, targetOf(rev))
	if len(sources) > MaxSide || len(targets) > MaxSide {
		return nil, api.ErrLimit
	}
	c := contents{indices: make(map[sign][]int)}
	return &search{candidates(sources, &c), candidates(targets, &c)}, api.OK
}

func candidates(l []unit, c *contents) []candidate {
	var all []candidate
	for i, u := range l {
		all = append(all, candidate{at: u.at, follows: i > 0 && u.isBehind(l[i-1]), content: c.number(u.item)})
	}
	return all
}

// rows yields for each source unit the lengths of the common ranges that end with it and with each target unit. The next row begins nothing but new ranges if this one was cleared.
func (s *search) rows() iter.Seq2[int, []int] {
	return func(yield func(source int, row []int) bool) {
		row, above := make([]int, len(s.targets)), make([]int, len(s.targets))
		for i, source := range s.sources {
			if !source.follows {
				clear(above)
			}
			s.fill(source, row, above)
			if !yield(i, row) {
				return
			}
			row, above = above, row
		}
	}
}

// fill finds the row of a source unit, when above is that of the unit before it.
func (s *search) fill(source candidate, row, above []int) {
	for j, target := range s.targets {
		switch {
		case source.isTaken || target.isTaken || source.content != target.content:
			row[j] = 0
		case target.follows:
			row[j] = above[j-1] + 1
		default:
			row[j] = 1
		}
	}
}

// best returns the best common range.
func (s *search) best() common {
	var b common
	for i, row := range s.rows() {
		for j, length := range row {
			if length > b.length {
				b = common{length, i, j}
			}
		}
	}
	return b
}

// takeAll takes all ranges that are the best ones one after another, as long as these have the length of the first one.
func (s *search) takeAll(length int) []Found {
	var all []Found
	for i, row := range s.rows() {
		if j := slices.Index(row, length); j >= 0 {
			c := common{length, i, j}
			take(s.sources, i, length)
			take(s.targets, j, length)
			clear(row)
			all = append(all, s.found(c))
		}
	}
	return all
}

// take takes the units of a range of which the last one is given.
func take(l []candidate, last, length int) {
	for i := range length {
		l[last-i].isTaken = true
	}
}

func (s *search) found(c common) Found {
	return Found{rangeOf(s.sources[c.source].at, c.length), rangeOf(s.targets[c.target].at, c.length)}
}

// rangeOf returns the range that ends with a unit.
func rangeOf(last api.Pos, length int) api.Range {
	return api.Range{Flow: last.Flow, From: last.At + 1 - length, To: last.At + 1}
}
