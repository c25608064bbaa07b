package resolve

import (
	"obelus/api"
	"obelus/document"
)

// judge returns what becomes of the head of an element, and whether the element remains.
type judge func(h api.Head) (out api.Head, remains bool)

// resolved returns the normal form of a document whose elements are judged. It is the normal form that leaves out rows without cells, and then tables without rows.
func resolved(d api.Document, decide judge) api.Document {
	d.Flow = rewrite(d.Flow, decide)
	d.End, _ = decide(d.End)
	return document.Normal(d)
}

// rewrite returns what remains of a flow, and the following functions what remains of rows and cells.
func rewrite(l []api.Item, decide judge) []api.Item {
	var left []api.Item
	for _, item := range l {
		if head, remains := decide(item.Head); remains {
			item.Head, item.Flow, item.Rows = head, rewrite(item.Flow, decide), rewriteRows(item.Rows, decide)
			left = append(left, item)
		}
	}
	return left
}

func rewriteRows(l []api.Row, decide judge) []api.Row {
	var left []api.Row
	for _, row := range l {
		if head, remains := decide(row.Head); remains {
			left = append(left, api.Row{Head: head, Cells: rewriteCells(row.Cells, decide)})
		}
	}
	return left
}

func rewriteCells(l []api.Cell, decide judge) []api.Cell {
	var left []api.Cell
	for _, cell := range l {
		if head, remains := decide(cell.Head); remains {
			left = append(left, api.Cell{Id: cell.Id, Head: head, Flow: rewrite(cell.Flow, decide)})
		}
	}
	return left
}
