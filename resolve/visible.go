package resolve

import (
	"iter"
	"slices"

	"obelus/api"
	"obelus/mark"
	"obelus/run"
)

func isVisible(item api.Item) bool {
	return mark.Visible(item.Head) && (item.Kind != api.Table || slices.ContainsFunc(item.Rows, isVisibleRow))
}
func isVisibleRow(r api.Row) bool {
	return mark.Visible(r.Head) && slices.ContainsFunc(r.Cells, isVisibleCell)
}
func isVisibleCell(c api.Cell) bool { return mark.Visible(c.Head) }

// visibleUnits yields for each unit of a flow whether its item is visible.
func visibleUnits(l []api.Item) iter.Seq[bool] {
	return func(yield func(bool) bool) {
		for i, item := range l {
			visible := isVisible(item)
			count, _ := run.Len(l[i : i+1])
			for range count {
				if !yield(visible) {
					return
				}
			}
		}
	}
}

// each returns what a function says about each element of a list.
func each[T any](l []T, says func(T) bool) []bool {
	var all []bool
	for _, one := range l {
		all = append(all, says(one))
	}
	return all
}
