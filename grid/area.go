package grid

import (
	"slices"

	"obelus/api"
)

// cover returns the smallest area that contains a and, if the two overlap, b.
func (a Area) cover(b Area) Area {
	if b.Top >= a.Bottom || a.Top >= b.Bottom || b.Left >= a.Right || a.Left >= b.Right {
		return a
	}
	return Area{min(a.Top, b.Top), min(a.Left, b.Left), max(a.Bottom, b.Bottom), max(a.Right, b.Right)}
}

// cells returns the indices of the cells of a row in an area that divides none of them: from first on, before last.
func (a Area) cells(r api.Row) (first, last int) {
	l := spans(r)
	behind := func(column int) int {
		if i := slices.IndexFunc(l, func(s Span) bool { return s.From >= column }); i >= 0 {
			return i
		}
		return len(l)
	}
	return behind(a.Left), behind(a.Right)
}

// filled reports whether the cells of each row reach to the right side of an area.
func (a Area) filled(rows []api.Row) bool {
	return !slices.ContainsFunc(rows[a.Top:a.Bottom], func(r api.Row) bool { return end(spans(r)) < a.Right })
}

// losesContent reports whether a cell of an area other than its first one has content.
func (a Area) losesContent(rows []api.Row) bool {
	for row := a.Top; row < a.Bottom; row++ {
		first, last := a.cells(rows[row])
		if row == a.Top {
			first++
		}
		if slices.ContainsFunc(rows[row].Cells[first:last], func(c api.Cell) bool { return len(c.Flow) > 0 }) {
			return true
		}
	}
	return false
}

// mergeAt returns the value of KeyVMerge in a row of an area that is merged.
func (a Area) mergeAt(row int) int {
	switch {
	case a.Bottom-a.Top == 1:
		return api.MergeNone
	case row == a.Top:
		return api.MergeStart
	}
	return api.MergeContinue
}

// keepOut makes the cell below an area that is merged start a rectangle, if it would continue the merged cell.
func (a Area) keepOut(below *api.Row) {
	if i := slices.Index(spans(*below), Span{a.Left, a.Right}); i >= 0 && merge(below.Cells[i]) == api.MergeContinue {
		put(&below.Cells[i], api.KeyVMerge, api.MergeStart)
	}
}
