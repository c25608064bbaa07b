// Package flows visits the flows of a document. It is no layer of its own: layers that look at all flows use it.
package flows

import (
	"iter"

	"obelus/api"
)

// All yields the flows of a document with their ids, in document order. They share their memory with the document.
func All(d api.Document) iter.Seq2[int, []api.Item] {
	return func(yield func(id int, l []api.Item) bool) { walk(0, d.Flow, yield) }
}

// walk hands the same yield down to the flows inside, because a chain of iterators would make deep flows slow.
func walk(id int, l []api.Item, yield func(id int, l []api.Item) bool) bool {
	if !yield(id, l) {
		return false
	}
	for _, item := range l {
		switch item.Kind {
		case api.Note:
			if !walk(item.Id, item.Flow, yield) {
				return false
			}
		case api.Table:
			if !walkRows(item.Rows, yield) {
				return false
			}
		}
	}
	return true
}

func walkRows(rows []api.Row, yield func(id int, l []api.Item) bool) bool {
	for _, row := range rows {
		for _, cell := range row.Cells {
			if !walk(cell.Id, cell.Flow, yield) {
				return false
			}
		}
	}
	return true
}
