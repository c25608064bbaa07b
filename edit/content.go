package edit

import (
	"slices"

	"obelus/api"
	"obelus/document"
)

// content says what stands in items, at any depth, whatever their kinds.
type content struct{ marked, anchored bool }

func (c *content) look(l []api.Item) {
	for _, item := range l {
		c.lookAtHead(item.Head)
		c.anchored = c.anchored || item.Kind == api.Anchor
		c.look(item.Flow)
		for _, row := range item.Rows {
			c.lookAtHead(row.Head)
			for _, cell := range row.Cells {
				c.lookAtHead(cell.Head)
				c.look(cell.Flow)
			}
		}
	}
}

func (c *content) lookAtHead(h api.Head) {
	m := h.Marks
	c.marked = c.marked || m.Ins != 0 || len(m.Dels) > 0 || len(m.Layers) > 0
}

// checkContent returns the error of marks and anchors in items that are to be inserted.
func checkContent(l []api.Item) api.Errno {
	var c content
	c.look(l)
	switch {
	case c.marked:
		return api.ErrMark
	case c.anchored:
		return api.ErrFlow
	}
	return api.OK
}

// eachId calls a function for the place of each id of a note, a table or a cell in a flow, in document order.
func eachId(l []api.Item, f func(id *int)) {
	for i := range l {
		item := &l[i]
		switch item.Kind {
		case api.Note:
			f(&item.Id)
			eachId(item.Flow, f)
		case api.Table:
			f(&item.Id)
			eachIdInRows(item.Rows, f)
		}
	}
}

func eachIdInRows(l []api.Row, f func(id *int)) {
	for _, row := range l {
		for i := range row.Cells {
			f(&row.Cells[i].Id)
			eachId(row.Cells[i].Flow, f)
		}
	}
}

// unused returns the greatest id that stands neither in a document nor in rows.
func unused(d api.Document, rows []api.Row) int {
	taken := slices.Concat(document.Ids(d), Ids(api.Edit{Rows: rows}))
	slices.Sort(taken)
	id := api.MaxId
	for _, other := range slices.Backward(taken) {
		if other == id {
			id--
		}
	}
	return id
}
