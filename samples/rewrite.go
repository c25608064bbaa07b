package samples

import "obelus/api"

// Rewrite returns the units of a flow in which each flow and the rows of each table, from inside out, are what functions make of them. A function that is nil changes nothing.
func Rewrite(id int, l []api.Item, flow func(id int, units []api.Item) []api.Item, rows func(id int, l []api.Row) []api.Row) []api.Item {
	var all []api.Item
	for _, u := range Units(l) {
		switch u.Kind {
		case api.Note:
			u.Flow = Rewrite(u.Id, u.Flow, flow, rows)
		case api.Table:
			u.Rows = rewriteRows(u.Rows, flow, rows)
			if rows != nil {
				u.Rows = rows(u.Id, u.Rows)
			}
		}
		all = append(all, u)
	}
	if flow != nil {
		all = flow(id, all)
	}
	return all
}

func rewriteRows(l []api.Row, flow func(id int, units []api.Item) []api.Item, rows func(id int, l []api.Row) []api.Row) []api.Row {
	var all []api.Row
	for _, r := range l {
		var cells []api.Cell
		for _, c := range r.Cells {
			cells = append(cells, api.Cell{Id: c.Id, Head: c.Head, Flow: Rewrite(c.Id, c.Flow, flow, rows)})
		}
		all = append(all, api.Row{Head: r.Head, Cells: cells})
	}
	return all
}

// WithFlow returns a document in which the units of a flow are what a function makes of them, and WithTable one in which the rows of a table are. Neither is in normal form.
func WithFlow(d api.Document, id int, f func(units []api.Item) []api.Item) api.Document {
	d.Flow = Rewrite(0, d.Flow, func(own int, units []api.Item) []api.Item {
		if own == id {
			return f(units)
		}
		return units
	}, nil)
	return d
}
func WithTable(d api.Document, id int, f func(rows []api.Row) []api.Row) api.Document {
	d.Flow = Rewrite(0, d.Flow, nil, func(own int, l []api.Row) []api.Row {
		if own == id {
			return f(l)
		}
		return l
	})
	return d
}
