// Package flows visits the flows of a document, and divides them into their units. It is no layer of its own: several layers use it.
package flows

import (
	"iter"
	"unicode/utf8"

	"obelus/api"
)

// All yields the flows of a document with their ids, in document order. They share their memory with the document.
func All(d api.Document) iter.Seq2[int, []api.Item] {
	return func(yield func(id int, l []api.Item) bool) { walk(0, d.Flow, yield) }
}

// walk hands the same yield down to the flows inside, because a chain of iterators would make deep flows slow.
func walk(id int, l []api.Item, yield func(id int, l []api.Item) bool) bool {
	if !yield(id, l) {
		return false
	}
	for _, item := range l {
		switch item.Kind {
		case api.Note:
			if !walk(item.Id, item.Flow, yield) {
				return false
			}
		case api.Table:
			if !walkRows(item.Rows, yield) {
				return false
			}
		}
	}
	return true
}

func walkRows(rows []api.Row, yield func(id int, l []api.Item) bool) bool {
	for _, row := range rows {
		for _, cell := range row.Cells {
			if !walk(cell.Id, cell.Flow, yield) {
				return false
			}
		}
	}
	return true
}

// Units returns the units of a flow, each as an item of its own. They share the memory of their heads and contents with the flow.
func Units(l []api.Item) []api.Item {
	var units []api.Item
	for _, item := range l {
		if item.Kind != api.Text {
			units = append(units, item)
			continue
		}
		for text := item.Text; text != ""; {
			_, width := utf8.DecodeRuneInString(text)
			item.Text, text = text[:width], text[width:]
			units = append(units, item)
		}
	}
	return units
}
