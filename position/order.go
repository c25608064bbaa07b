package position

import (
	"iter"

	"obelus/api"
	"obelus/run"
)

// positions yields the positions of a document in document order.
func positions(d api.Document) iter.Seq[api.Pos] {
	return func(yield func(api.Pos) bool) { visit(0, d.Flow, yield) }
}

// visit hands the same yield down to the flows inside, because a chain of iterators would make deep positions slow.
func visit(flow int, l []api.Item, yield func(api.Pos) bool) bool {
	at := 0
	for i := range l {
		for range unitsOf(l, i) {
			if !yield(api.Pos{Flow: flow, At: at}) {
				return false
			}
			at++
		}
		for id, inner := range inside(l[i]) {
			if !visit(id, inner, yield) {
				return false
			}
		}
	}
	return yield(api.Pos{Flow: flow, At: at})
}

// climb returns the positions of the notes and tables between a flow and one that is wanted inside of it, from the innermost one to the outermost one.
func climb(flow int, l []api.Item, wanted int) (path []api.Pos, found bool) {
	if flow == wanted {
		return nil, true
	}
	at := 0
	for i := range l {
		for id, inner := range inside(l[i]) {
			if path, found := climb(id, inner, wanted); found {
				return append(path, api.Pos{Flow: flow, At: at}), true
			}
		}
		at += unitsOf(l, i)
	}
	return nil, false
}

// inside yields the flow of a note, or the flows of the cells of a table, with their ids.
func inside(item api.Item) iter.Seq2[int, []api.Item] {
	return func(yield func(int, []api.Item) bool) {
		switch item.Kind {
		case api.Note:
			yield(item.Id, item.Flow)
		case api.Table:
			for _, row := range item.Rows {
				for _, cell := range row.Cells {
					if !yield(cell.Id, cell.Flow) {
						return
					}
				}
			}
		}
	}
}

// unitsOf returns the number of units of an item of a flow.
func unitsOf(l []api.Item, index int) int {
	count, _ := run.Len(l[index : index+1])
	return count
}
