package edit

import (
	"slices"

	"obelus/api"
	"obelus/document"
)

// setRows returns the document in which the table has other rows.
func (c change) setRows(rows []api.Row) api.Document {
	changed, _ := document.SetTable(c.doc, c.Flow, rows)
	return changed
}

// setCells returns the document in which the row of the edit has other cells.
func (c change) setCells(cells []api.Cell) api.Document {
	c.rows[c.At].Cells = cells
	return c.setRows(c.rows)
}

// checkRows returns the error of rows that are to be inserted into the table; with them it has too many rows, or one of its rows too many cells, if they are too many.
func (c change) checkRows(rows []api.Row, tooMany bool) api.Errno {
	if e := checkContent([]api.Item{{Kind: api.Table, Rows: rows}}); e != api.OK {
		return e
	}
	if tooMany {
		return api.ErrLimit
	}
	place, _ := document.Place(c.doc, c.Flow)
	return document.CheckInsert(c.doc, place.Flow, []api.Item{{Kind: api.Table, Id: unused(c.doc, rows), Rows: rows}})
}

func (c change) insertRows() (api.Document, api.Errno) {
	switch {
	case !isPlace(c.At, len(c.rows)):
		return api.Document{}, api.ErrRange
	case len(c.Rows) == 0:
		return api.Document{}, api.ErrEmpty
	}
	if e := c.checkRows(c.Rows, len(c.rows)+len(c.Rows) > api.MaxRows); e != api.OK {
		return api.Document{}, e
	}
	return c.setRows(slices.Insert(c.rows, c.At, c.Rows...)), api.OK
}

func (c change) deleteRows() (api.Document, api.Errno) {
	if !isPart(c.At, c.Count, len(c.rows)) {
		return api.Document{}, api.ErrRange
	}
	return c.setRows(slices.Delete(c.rows, c.At, c.At+c.Count)), api.OK
}

func (c change) insertCells() (api.Document, api.Errno) {
	if !isElement(c.At, len(c.rows)) || !isPlace(c.Sub, len(c.rows[c.At].Cells)) {
		return api.Document{}, api.ErrRange
	}
	if len(c.Cells) == 0 {
		return api.Document{}, api.ErrEmpty
	}
	cells := c.rows[c.At].Cells
	if e := c.checkRows([]api.Row{{Cells: c.Cells}}, len(cells)+len(c.Cells) > api.MaxColumns); e != api.OK {
		return api.Document{}, e
	}
	return c.setCells(slices.Insert(cells, c.Sub, c.Cells...)), api.OK
}

func (c change) deleteCells() (api.Document, api.Errno) {
	if !isElement(c.At, len(c.rows)) || !isPart(c.Sub, c.Count, len(c.rows[c.At].Cells)) {
		return api.Document{}, api.ErrRange
	}
	return c.setCells(slices.Delete(c.rows[c.At].Cells, c.Sub, c.Sub+c.Count)), api.OK
}
