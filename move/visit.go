package move

import "obelus/api"

// visit calls a function for the head of each element of a document, in document order; that of the last section comes last.
func visit(d *api.Document, f func(h *api.Head)) {
	visitFlow(d.Flow, f)
	f(&d.End)
}

func visitFlow(l []api.Item, f func(h *api.Head)) {
	for i := range l {
		item := &l[i]
		f(&item.Head)
		visitFlow(item.Flow, f)
		for j := range item.Rows {
			row := &item.Rows[j]
			f(&row.Head)
			for k := range row.Cells {
				f(&row.Cells[k].Head)
				visitFlow(row.Cells[k].Flow, f)
			}
		}
	}
}

// visitFlows calls a function for each flow in an item of a flow, and for this flow itself, in document order.
func visitFlows(id int, l []api.Item, f func(id int, l []api.Item)) {
	f(id, l)
	for _, item := range l {
		switch item.Kind {
		case api.Note:
			visitFlows(item.Id, item.Flow, f)
		case api.Table:
			for _, row := range item.Rows {
				for _, cell := range row.Cells {
					visitFlows(cell.Id, cell.Flow, f)
				}
			}
		}
	}
}
