package move

import (
	"cmp"
	"maps"
	"slices"
	"strings"

	"obelus/api"
	"obelus/document"
	"obelus/flows"
	"obelus/run"
)

// pair is what identifies a move: its revision and its number.
type pair struct{ rev, number int }

// side is the source or the target of a move.
type side struct {
	ranges []api.Range
	text   strings.Builder
}

// moved is both sides of a move.
type moved struct{ source, target side }

// add adds the next item of a flow, which has the units of a range.
func (s *side) add(item api.Item, r api.Range) {
	s.text.WriteString(run.Text([]api.Item{item}))
	if last := len(s.ranges) - 1; last >= 0 && s.ranges[last].Flow == r.Flow && s.ranges[last].To == r.From {
		s.ranges[last].To = r.To
		return
	}
	s.ranges = append(s.ranges, r)
}

func (m *moved) result(p pair) Move {
	return Move{Rev: p.rev, Number: p.number, Sources: m.source.ranges, Targets: m.target.ranges}
}

// problem returns what is wrong with a move, or 0.
func (m *moved) problem() int {
	switch {
	case len(m.source.ranges) == 0:
		return NoSource
	case len(m.target.ranges) == 0:
		return NoTarget
	case m.source.text.String() != m.target.text.String():
		return Changed
	}
	return 0
}

// collect returns the moves of a document.
func collect(d api.Document) map[pair]*moved {
	moves := make(map[pair]*moved)
	of := func(p pair) *moved {
		if moves[p] == nil {
			moves[p] = &moved{}
		}
		return moves[p]
	}
	for id, l := range flows.All(d) {
		at := 0
		for i, item := range l {
			length, _ := run.Len(l[i : i+1])
			r := api.Range{Flow: id, From: at, To: at + length}
			at = r.To
			if m := item.Head.Marks; m.Move > 0 {
				of(pair{m.Ins, m.Move}).target.add(item, r)
			}
			for _, del := range item.Head.Marks.Dels {
				if del.Move > 0 {
					of(pair{del.Rev, del.Move}).source.add(item, r)
				}
			}
		}
	}
	return moves
}

// inOrder returns the revisions and numbers of moves in increasing order.
func inOrder(moves map[pair]*moved) []pair {
	return slices.SortedFunc(maps.Keys(moves), func(a, b pair) int {
		return cmp.Or(cmp.Compare(a.rev, b.rev), cmp.Compare(a.number, b.number))
	})
}

// sideAt returns the move to one of whose sides a unit belongs, and whether this side is the target.
func sideAt(d api.Document, p api.Pos) (of pair, isTarget, found bool) {
	l, _ := document.Flow(d, p.Flow)
	index, _, e := run.Index(l, p.At)
	if e != api.OK {
		return pair{}, false, false
	}
	m := l[index].Head.Marks
	if m.Move != 0 {
		return pair{m.Ins, m.Move}, true, true
	}
	i := slices.IndexFunc(m.Dels, func(del api.Del) bool { return del.Move != 0 })
	if i < 0 {
		return pair{}, false, false
	}
	return pair{m.Dels[i].Rev, m.Dels[i].Move}, false, true
}

// size returns the number of units of ranges.
func size(ranges []api.Range) int {
	total := 0
	for _, r := range ranges {
		total += r.To - r.From
	}
	return total
}

// number returns the number of a unit among those of ranges, and unit the unit with a number.
func number(ranges []api.Range, p api.Pos) int {
	before := 0
	for _, r := range ranges {
		if r.Flow == p.Flow && r.From <= p.At && p.At < r.To {
			return before + p.At - r.From
		}
		before += r.To - r.From
	}
	return before
}
func unit(ranges []api.Range, number int) (api.Pos, bool) {
	for _, r := range ranges {
		if length := r.To - r.From; number >= length {
			number -= length
			continue
		}
		return api.Pos{Flow: r.Flow, At: r.From + number}, true
	}
	return api.Pos{}, false
}
