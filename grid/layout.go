package grid

import (
	"obelus/api"
	"obelus/property"
)

// spans returns the columns of the cells of a row.
func spans(r api.Row) []Span {
	l := make([]Span, len(r.Cells))
	from := 0
	for i, cell := range r.Cells {
		columns, _ := property.Get(cell.Head.Props, api.KeyColSpan)
		to := from + min(max(columns, 1), api.MaxColumns-from)
		l[i] = Span{from, to}
		from = to
	}
	return l
}

func (s Span) empty() bool { return s.From == s.To }

// end returns the column behind the cells of a row.
func end(l []Span) int {
	if len(l) == 0 {
		return 0
	}
	return l[len(l)-1].To
}

// merge returns the value of KeyVMerge of a cell.
func merge(c api.Cell) int {
	value, _ := property.Get(c.Head.Props, api.KeyVMerge)
	return value
}

// square is a place in the grid.
type square struct{ row, column int }

// layout has the rectangles of a table and, for each square at which a cell begins, the index of the rectangle to which this cell belongs.
type layout struct {
	rows  []api.Row
	rects []Rect
	at    map[square]int
}

func lay(rows []api.Row) *layout {
	table := &layout{rows: rows, at: make(map[square]int)}
	for row := range len(rows) {
		for cell, s := range spans(rows[row]) {
			if !s.empty() {
				table.add(row, cell, s)
			}
		}
	}
	return table
}

// add notes a cell; those of the row above are known.
func (table *layout) add(row, cell int, s Span) {
	i, found := table.at[square{row - 1, s.From}]
	if found && merge(table.rows[row].Cells[cell]) == api.MergeContinue && table.goesOn(table.rects[i], s) {
		table.rects[i].Area.Bottom = row + 1
	} else {
		i = len(table.rects)
		table.rects = append(table.rects, Rect{row, cell, Area{row, s.From, row + 1, s.To}})
	}
	table.at[square{row, s.From}] = i
}

// goesOn reports whether a cell with some columns can continue a rectangle that ends above it. All cells of the rectangle but the first one are known to be ones that continue.
func (table *layout) goesOn(r Rect, s Span) bool {
	first := merge(table.rows[r.Row].Cells[r.Cell])
	return s == Span{r.Area.Left, r.Area.Right} && (first == api.MergeStart || first == api.MergeContinue)
}
