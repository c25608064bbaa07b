package move

import "obelus/api"

// visit calls a function for the head of each element of a document, in document order; that of the last section comes last.
func visit(d *api.Document, f func(h *api.Head)) {
	visitFlow(d.Flow, f)
	f(&d.End)
}

func visitFlow(l []api.Item, f func(h *api.Head)) {
	for i := range l {
		item := &l[i]
		f(&item.Head)
		visitFlow(item.Flow, f)
		for j := range item.Rows {
			row := &item.Rows[j]
			f(&row.Head)
			for k := range row.Cells {
				f(&row.Cells[k].Head)
				visitFlow(row.Cells[k].Flow, f)
			}
		}
	}
}
