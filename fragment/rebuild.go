package fragment

import (
	"obelus/api"
	"obelus/run"
)

// rebuild returns new items in which, at every depth, some items are left out, and the heads and the ids of notes, tables and cells are what functions make of them. The functions are called in document order; they may only take notes, too, where what is rebuilt is not used.
func rebuild(l []api.Item, keep func(item api.Item) bool, head func(h api.Head) api.Head, id func(id int) int) []api.Item {
	var all []api.Item
	for _, item := range l {
		if !keep(item) {
			continue
		}
		item.Head = head(item.Head)
		if item.Kind == api.Note || item.Kind == api.Table {
			item.Id = id(item.Id)
		}
		item.Flow = rebuild(item.Flow, keep, head, id)
		item.Rows = rebuildRows(item.Rows, keep, head, id)
		all = append(all, item)
	}
	return all
}

func rebuildRows(l []api.Row, keep func(item api.Item) bool, head func(h api.Head) api.Head, id func(id int) int) []api.Row {
	var all []api.Row
	for _, row := range l {
		rebuilt := api.Row{Head: head(row.Head)}
		for _, cell := range row.Cells {
			cell.Head = head(cell.Head)
			cell.Id = id(cell.Id)
			cell.Flow = rebuild(cell.Flow, keep, head, id)
			rebuilt.Cells = append(rebuilt.Cells, cell)
		}
		all = append(all, rebuilt)
	}
	return all
}

// The following functions are for rebuild: all items stay, or all but anchors or notes; heads stay, or lose their marks; ids stay.
func anyItem(api.Item) bool            { return true }
func isNoAnchor(item api.Item) bool    { return item.Kind != api.Anchor }
func isNoNote(item api.Item) bool      { return item.Kind != api.Note }
func sameHead(h api.Head) api.Head     { return run.CloneHead(h) }
func withoutMarks(h api.Head) api.Head { return run.CloneHead(api.Head{Props: h.Props}) }
func sameId(id int) int                { return id }
