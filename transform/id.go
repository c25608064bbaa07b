package transform

import "obelus/api"

// ids are the ids of notes, tables and cells.
type ids map[int]bool

// idsOf returns the ids in a piece.
func idsOf(p api.Piece) ids {
	found := make(ids)
	found.addItems(p.Items)
	found.addRows(p.Rows)
	found.addCells(p.Cells)
	return found
}

func (found ids) addItems(l []api.Item) {
	for _, item := range l {
		if item.Kind == api.Note || item.Kind == api.Table {
			found[item.Id] = true
		}
		found.addItems(item.Flow)
		found.addRows(item.Rows)
	}
}

func (found ids) addRows(l []api.Row) {
	for _, row := range l {
		found.addCells(row.Cells)
	}
}

func (found ids) addCells(l []api.Cell) {
	for _, cell := range l {
		found[cell.Id] = true
		found.addItems(cell.Flow)
	}
}

// meet reports whether an id is in both sets.
func (found ids) meet(others ids) bool {
	if len(found) > len(others) {
		found, others = others, found
	}
	for id := range found {
		if others[id] {
			return true
		}
	}
	return false
}
