package split

import (
	"iter"
	"slices"

	"obelus/api"
	"obelus/mark"
	"obelus/run"
)

// whole returns the body of a document and, behind it, a section mark with the head of its last section.
func whole(d api.Document) []api.Item {
	return append(slices.Clone(d.Flow), api.Item{Kind: api.Section, Head: d.End})
}

// heads yields the heads of the elements of a flow, at any depth, with the numbers of units as which they count.
func heads(l []api.Item) iter.Seq2[api.Head, int] {
	return func(yield func(h api.Head, weight int) bool) { walk(l, yield) }
}

// walk hands the same yield down to the flows inside, because a chain of iterators would make deep elements slow.
func walk(l []api.Item, yield func(h api.Head, weight int) bool) bool {
	for i, item := range l {
		weight, _ := run.Len(l[i : i+1])
		if !yield(item.Head, weight) || !walk(item.Flow, yield) || !walkRows(item.Rows, yield) {
			return false
		}
	}
	return true
}

func walkRows(l []api.Row, yield func(h api.Head, weight int) bool) bool {
	for _, row := range l {
		if !yield(row.Head, 1) {
			return false
		}
		for _, cell := range row.Cells {
			if !yield(cell.Head, 1) || !walk(cell.Flow, yield) {
				return false
			}
		}
	}
	return true
}

// marked returns the number of elements of a flow that have a mark by a revision.
func marked(l []api.Item, rev int) int {
	count := 0
	for h, weight := range heads(l) {
		if mark.Uses(h, rev) {
			count += weight
		}
	}
	return count
}

// move is a move of a revision.
type move struct{ rev, number int }

// moves returns the moves in a flow with their sizes: an element counts for each mark of the move that it has.
func moves(l []api.Item) map[move]int {
	sizes := make(map[move]int)
	count := func(m move, weight int) {
		if m.number != 0 {
			sizes[m] += weight
		}
	}
	for h, weight := range heads(l) {
		count(move{h.Marks.Ins, h.Marks.Move}, weight)
		for _, del := range h.Marks.Dels {
			count(move{del.Rev, del.Move}, weight)
		}
	}
	return sizes
}
