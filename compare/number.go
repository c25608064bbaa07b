package compare

import "obelus/api"

// numberer gives new ids to the notes, tables and cells that are inserted, or are in something that is.
type numberer struct{ next int }

func (n *numberer) renew(id *int) {
	*id = n.next
	n.next++
}

// flow gives new ids in a flow, at any depth; isNew says whether it is in something that is inserted.
func (n *numberer) flow(l []api.Item, isNew bool) {
	for i := range l {
		item := &l[i]
		isNewItem := isNew || item.Head.Marks.Ins != 0
		if isNewItem && (item.Kind == api.Note || item.Kind == api.Table) {
			n.renew(&item.Id)
		}
		n.flow(item.Flow, isNewItem)
		for j := range item.Rows {
			n.row(item.Rows[j], isNewItem)
		}
	}
}

func (n *numberer) row(r api.Row, isNew bool) {
	isNew = isNew || r.Head.Marks.Ins != 0
	for i := range r.Cells {
		cell := &r.Cells[i]
		isNewCell := isNew || cell.Head.Marks.Ins != 0
		if isNewCell {
			n.renew(&cell.Id)
		}
		n.flow(cell.Flow, isNewCell)
	}
}
