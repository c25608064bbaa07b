package run

import (
	"iter"
	"slices"

	"obelus/api"
)

// vanishes reports whether the normal form of a flow does not have an item of it.
func vanishes(item api.Item) bool {
	switch item.Kind {
	case api.Text:
		return item.Text == ""
	case api.Table:
		return !slices.ContainsFunc(item.Rows, hasCells)
	}
	return false
}

func hasCells(r api.Row) bool { return len(r.Cells) > 0 }

// joins reports whether two neighbours become one text.
func joins(a, b api.Item) bool {
	return a.Kind == api.Text && b.Kind == api.Text && EqualHead(a.Head, b.Head)
}

// groups yields the longest lists of neighbours of which each joins the next one.
func groups(l []api.Item) iter.Seq[[]api.Item] {
	return func(yield func([]api.Item) bool) {
		for start := 0; start < len(l); {
			end := start + 1
			for end < len(l) && joins(l[start], l[end]) {
				end++
			}
			if !yield(l[start:end]) {
				return
			}
			start = end
		}
	}
}

// join returns the item that a group becomes, with its contents in normal form.
func join(alike []api.Item) api.Item {
	joined := alike[0]
	if len(alike) > 1 {
		joined.Text = Text(alike)
	}
	joined.Head = CloneHead(joined.Head)
	joined.Flow = Normal(joined.Flow)
	joined.Rows = normalRows(joined.Rows)
	return joined
}

func normalRows(l []api.Row) []api.Row {
	var normal []api.Row
	for _, row := range l {
		if hasCells(row) {
			normal = append(normal, api.Row{Head: CloneHead(row.Head), Cells: copyList(row.Cells, normalCell)})
		}
	}
	return normal
}

func normalCell(c api.Cell) api.Cell {
	return api.Cell{Id: c.Id, Head: CloneHead(c.Head), Flow: Normal(c.Flow)}
}

// areNormal reports whether all rows have cells, and the flows of all cells are in normal form.
func areNormal(l []api.Row) bool {
	for _, row := range l {
		if !hasCells(row) || slices.ContainsFunc(row.Cells, func(c api.Cell) bool { return !IsNormal(c.Flow) }) {
			return false
		}
	}
	return true
}
