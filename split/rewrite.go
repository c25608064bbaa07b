package split

import (
	"obelus/api"
	"obelus/run"
)

// change returns what becomes of the head of an element, and whether the element remains.
type change func(h api.Head) (out api.Head, remains bool)

// on changes the head of an element if it lies in the range.
func (f change) on(h api.Head, inside bool) (out api.Head, remains bool) {
	if !inside {
		return h, true
	}
	return f(h)
}

// everywhere changes the heads of all elements of a document.
func everywhere(d api.Document, f change) api.Document {
	d.Flow = rewrite(d.Flow, 0, api.Range{}, true, f)
	d.End, _ = f(d.End)
	return d
}

// rewrite changes the heads of those elements of a flow that lie in a range; if the flag inside is set, all of them do. The following functions do the same for rows and cells.
func rewrite(l []api.Item, flow int, r api.Range, inside bool, f change) []api.Item {
	if flow == r.Flow && !inside {
		part, _ := run.Slice(l, r.From, r.To)
		all, _ := run.Replace(l, r.From, r.To, rewrite(part, flow, r, true, f))
		return all
	}
	var all []api.Item
	for _, item := range l {
		if head, remains := f.on(item.Head, inside); remains {
			item.Head, item.Flow, item.Rows = head, rewrite(item.Flow, item.Id, r, inside, f), rewriteRows(item.Rows, r, inside, f)
			all = append(all, item)
		}
	}
	return all
}

func rewriteRows(l []api.Row, r api.Range, inside bool, f change) []api.Row {
	var all []api.Row
	for _, row := range l {
		if head, remains := f.on(row.Head, inside); remains {
			all = append(all, api.Row{Head: head, Cells: rewriteCells(row.Cells, r, inside, f)})
		}
	}
	return all
}

func rewriteCells(l []api.Cell, r api.Range, inside bool, f change) []api.Cell {
	var all []api.Cell
	for _, cell := range l {
		if head, remains := f.on(cell.Head, inside); remains {
			all = append(all, api.Cell{Id: cell.Id, Head: head, Flow: rewrite(cell.Flow, cell.Id, r, inside, f)})
		}
	}
	return all
}
