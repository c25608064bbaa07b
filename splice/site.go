package splice

import (
	"slices"

	"obelus/api"
	"obelus/document"
	"obelus/run"
)

// site is where a splice replaces something: a document, with copies of its flow or the rows of its table.
type site struct {
	gap
	doc   api.Document
	items []api.Item
	rows  []api.Row
}

// open returns the site of a gap in a document.
func open(d api.Document, g gap) (site, api.Errno) {
	s, found := site{gap: g, doc: d}, true
	switch uses := kinds()[g.kind].uses; {
	case uses&itemsField != 0:
		s.items, found = document.Flow(d, g.id)
	case uses&idField != 0:
		var table api.Item
		table, found = document.Table(d, g.id)
		s.rows = table.Rows
	}
	if !found {
		return site{}, api.ErrNotFound
	}
	return s, api.OK
}

// replace returns the document behind a splice, with no other revisions than before.
func replace(d api.Document, s api.Splice) (api.Document, api.Errno) {
	here, e := open(d, gapOf(s))
	if e != api.OK {
		return api.Document{}, e
	}
	k := kinds()[s.Kind]
	there, e := k.read(here, here.old)
	switch {
	case e != api.OK:
		return api.Document{}, e
	case !equalPieces(there, s.Old):
		return api.Document{}, api.ErrConflict
	}
	return k.write(here, s.New)
}

func (s site) readItems(count int) (api.Piece, api.Errno) {
	items, e := run.Slice(s.items, s.at, s.at+count)
	return api.Piece{Items: items}, e
}

func (s site) readRows(count int) (api.Piece, api.Errno) {
	rows, e := part(s.rows, s.at, count)
	return api.Piece{Rows: rows}, e
}

func (s site) readCells(count int) (api.Piece, api.Errno) {
	row, e := s.row()
	if e != api.OK {
		return api.Piece{}, e
	}
	cells, e := part(row.Cells, s.sub, count)
	return api.Piece{Cells: cells}, e
}

func (s site) readRow(int) (api.Piece, api.Errno) {
	row, e := s.row()
	if e != api.OK {
		return api.Piece{}, e
	}
	return api.Piece{Head: row.Head}, api.OK
}

func (s site) readCell(int) (api.Piece, api.Errno) {
	cell, e := s.cell()
	if e != api.OK {
		return api.Piece{}, e
	}
	return api.Piece{Head: cell.Head}, api.OK
}

func (s site) readEnd(int) (api.Piece, api.Errno) { return api.Piece{Head: s.doc.End}, api.OK }

func (s site) readSettings(int) (api.Piece, api.Errno) {
	return api.Piece{Settings: s.doc.Settings}, api.OK
}

func (s site) writeItems(with api.Piece) (api.Document, api.Errno) {
	l, _ := run.Replace(s.items, s.at, s.at+s.old, with.Items)
	changed, _ := document.SetFlow(s.doc, s.id, l)
	return changed, api.OK
}

func (s site) writeRows(with api.Piece) (api.Document, api.Errno) {
	return s.setRows(slices.Replace(s.rows, s.at, s.at+s.old, with.Rows...))
}

func (s site) writeCells(with api.Piece) (api.Document, api.Errno) {
	row, _ := s.row()
	row.Cells = slices.Replace(row.Cells, s.sub, s.sub+s.old, with.Cells...)
	return s.setRows(s.rows)
}

func (s site) writeRow(with api.Piece) (api.Document, api.Errno) {
	row, _ := s.row()
	row.Head = with.Head
	return s.setRows(s.rows)
}

func (s site) writeCell(with api.Piece) (api.Document, api.Errno) {
	cell, _ := s.cell()
	cell.Head = with.Head
	return s.setRows(s.rows)
}

func (s site) writeEnd(with api.Piece) (api.Document, api.Errno) {
	s.doc.End = with.Head
	return document.Normal(s.doc), api.OK
}

func (s site) writeSettings(with api.Piece) (api.Document, api.Errno) {
	s.doc.Settings = with.Settings
	return document.Normal(s.doc), api.OK
}

// setRows returns the document in which the table has other rows.
func (s site) setRows(rows []api.Row) (api.Document, api.Errno) {
	if len(rows) == 0 || slices.ContainsFunc(rows, func(r api.Row) bool { return !hasCells(r) }) {
		return api.Document{}, api.ErrEmpty
	}
	changed, _ := document.SetTable(s.doc, s.id, rows)
	return changed, api.OK
}

func (s site) row() (*api.Row, api.Errno) { return element(s.rows, s.at) }

func (s site) cell() (*api.Cell, api.Errno) {
	row, e := s.row()
	if e != api.OK {
		return nil, e
	}
	return element(row.Cells, s.sub)
}

func element[T any](l []T, at int) (*T, api.Errno) {
	if at < 0 || at >= len(l) {
		return nil, api.ErrRange
	}
	return &l[at], api.OK
}

// part returns a number of elements of a list.
func part[T any](l []T, at, count int) ([]T, api.Errno) {
	if at < 0 || count > len(l)-at {
		return nil, api.ErrRange
	}
	return l[at : at+count : at+count], api.OK
}
