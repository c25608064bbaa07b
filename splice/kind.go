package splice

import (
	"obelus/api"
	"obelus/run"
)

// fields are fields of splices, with a bit for each one.
type fields int

const (
	idField fields = 1 << iota
	atField
	subField
	itemsField
	rowsField
	cellsField
	headField
	settingsField
)

// kind is a kind of splices: the fields that it uses, and the functions that read and replace a piece.
type kind struct {
	uses  fields
	read  func(s site, count int) (api.Piece, api.Errno)
	write func(s site, with api.Piece) (api.Document, api.Errno)
}

func kinds() map[int]kind {
	return map[int]kind{
		api.SpliceItems: {idField | atField | itemsField, site.readItems, site.writeItems},
		api.SpliceRows:  {idField | atField | rowsField, site.readRows, site.writeRows},
		api.SpliceCells: {idField | atField | subField | cellsField, site.readCells, site.writeCells},
		api.SpliceRow:   {idField | atField | headField, site.readRow, site.writeRow},
		api.SpliceCell:  {idField | atField | subField | headField, site.readCell, site.writeCell},
		api.SpliceEnd:   {headField, site.readEnd, site.writeEnd},
		api.SpliceSet:   {settingsField, site.readSettings, site.writeSettings},
	}
}

// fieldsOf returns the fields that are not zero. They are listed in the order of their bits.
func fieldsOf(s api.Splice) fields {
	old, new := s.Old, s.New
	var used fields
	for i, filled := range [...]bool{
		s.Id != 0, s.At != 0, s.Sub != 0,
		len(old.Items)+len(new.Items) > 0, len(old.Rows)+len(new.Rows) > 0, len(old.Cells)+len(new.Cells) > 0,
		!run.EqualHead(old.Head, api.Head{}) || !run.EqualHead(new.Head, api.Head{}),
		!equalSettings(old.Settings, api.Settings{}) || !equalSettings(new.Settings, api.Settings{}),
	} {
		if filled {
			used |= 1 << i
		}
	}
	return used
}

// size returns the number of elements of a piece.
func (k kind) size(p api.Piece) int {
	switch {
	case k.uses&itemsField != 0:
		units, _ := run.Len(p.Items)
		return units
	case k.uses&rowsField != 0:
		return len(p.Rows)
	case k.uses&cellsField != 0:
		return len(p.Cells)
	}
	return 1
}
