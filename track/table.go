package track

import (
	"slices"

	"obelus/api"
	"obelus/document"
	"obelus/resolve"
)

// rows returns the rows of the table, and which of them are visible.
func (t tracker) rows() (l []api.Row, visible []bool) {
	table, _ := document.Table(t.doc, t.Flow)
	visible, _ = resolve.Rows(t.doc, t.Flow)
	return table.Rows, visible
}

// setRows returns the document in which the table has other rows.
func (t tracker) setRows(l []api.Row) api.Document {
	changed, _ := document.SetTable(t.doc, t.Flow, l)
	return changed
}

// changeRows returns the document in which the heads of some visible rows, from that of the edit on, are changed.
func (t tracker) changeRows(count int, c change) (api.Document, api.Errno) {
	l, visible := t.rows()
	left, e := rewrite(l, within(visible, t.At, t.At+count), c, ofRow)
	return t.setRows(left), e
}

func (t tracker) insertRows() (api.Document, api.Errno) {
	l, visible := t.rows()
	return t.setRows(slices.Insert(l, behind(visible, t.At), inserted(t.Rows, t.rev, ofRow)...)), api.OK
}

func (t tracker) deleteRows() (api.Document, api.Errno) {
	return t.changeRows(t.Count, t.deletion(0))
}

func (t tracker) formatRow() (api.Document, api.Errno) { return t.changeRows(1, t.formatting()) }

// editRow returns the document in which the cells of the row of the edit are what a function makes of them.
func (t tracker) editRow(f func(l []api.Cell, visible []bool) ([]api.Cell, api.Errno)) (api.Document, api.Errno) {
	l, visible := t.rows()
	at, found := nth(visible, t.At)
	if !found {
		return api.Document{}, api.ErrRange
	}
	shown, _ := resolve.Cells(t.doc, t.Flow, at)
	cells, e := f(l[at].Cells, shown)
	l[at].Cells = cells
	return t.setRows(l), e
}

// changeCells returns the document in which the heads of some visible cells, from that of the edit on, are changed.
func (t tracker) changeCells(count int, c change) (api.Document, api.Errno) {
	return t.editRow(func(l []api.Cell, visible []bool) ([]api.Cell, api.Errno) {
		return rewrite(l, within(visible, t.Sub, t.Sub+count), c, ofCell)
	})
}

func (t tracker) insertCells() (api.Document, api.Errno) {
	return t.editRow(func(l []api.Cell, visible []bool) ([]api.Cell, api.Errno) {
		return slices.Insert(l, behind(visible, t.Sub), inserted(t.Cells, t.rev, ofCell)...), api.OK
	})
}

func (t tracker) deleteCells() (api.Document, api.Errno) {
	return t.changeCells(t.Count, t.deletion(0))
}

func (t tracker) formatCell() (api.Document, api.Errno) { return t.changeCells(1, t.formatting()) }
