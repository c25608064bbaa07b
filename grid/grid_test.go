package grid_test

import (
	"fmt"
	"math"
	"math/rand/v2"
	"slices"
	"testing"

	"obelus/api"
	"obelus/grid"
	"obelus/property"
	"obelus/run"
	"obelus/samples"
)

const (
	none  = api.MergeNone
	start = api.MergeStart
	goes  = api.MergeContinue
)

// c returns a cell with a span and a merge, which are not set where they are the defaults.
func c(span, merge int) api.Cell {
	var cell api.Cell
	if span != 1 {
		cell.Head.Props = append(cell.Head.Props, api.Prop{Key: api.KeyColSpan, Value: span})
	}
	if merge != none {
		cell.Head.Props = append(cell.Head.Props, api.Prop{Key: api.KeyVMerge, Value: merge})
	}
	return cell
}

func with(cell api.Cell, l ...api.Item) api.Cell { cell.Flow = l; return cell }
func row(cells ...api.Cell) api.Row              { return api.Row{Cells: cells} }
func table(rows ...api.Row) []api.Row            { return rows }
func rect(row, cell, left, bottom, right int) grid.Rect {
	return grid.Rect{Row: row, Cell: cell, Area: grid.Area{Top: row, Left: left, Bottom: bottom, Right: right}}
}

// example is the table of the first example of the chapter.
func example() []api.Row {
	return table(row(c(2, start), c(1, none)), row(c(2, goes), c(1, none)))
}

// squares is a table without merged cells.
func squares(rows, columns int) []api.Row {
	var l []api.Row
	for range rows {
		l = append(l, row(slices.Repeat([]api.Cell{{}}, columns)...))
	}
	return l
}

// many is a row of cells of one column.
func many(count int) api.Row { return squares(1, count)[0] }

// show returns a string that is equal for equal values, where nil and empty slices are equal.
func show(v any) string { return fmt.Sprintf("%+v", v) }

// source makes tables.
type source struct{ *rand.Rand }

func newSource() source { return source{rand.New(rand.NewPCG(12, 5))} }

func pick[T any](s source, l ...T) T { return l[s.IntN(len(l))] }

// table returns a table whose rows are often like the ones before. Not all tables are regular, and some values are not permitted.
func (s source) table(most int) []api.Row {
	var rows []api.Row
	spans := s.spans()
	for range s.IntN(most + 1) {
		if s.IntN(3) == 0 {
			spans = s.spans()
		}
		r := api.Row{Head: api.Head{Props: []api.Prop{{Key: api.KeyHeader, Value: 1}}}, Cells: make([]api.Cell, 0, 9)}
		for _, span := range spans {
			r.Cells = append(r.Cells, s.cell(span))
		}
		rows = append(rows, r)
	}
	return rows
}

func (s source) spans() []int {
	l := make([]int, s.IntN(5))
	for i := range l {
		l[i] = pick(s, 1, 1, 1, 2, 2, 3)
		if s.IntN(12) == 0 {
			l[i] = pick(s, 0, -1, math.MinInt, 29, 31, 32, 33, math.MaxInt)
		}
	}
	return l
}

func (s source) cell(span int) api.Cell {
	cell := c(span, pick(s, none, start, start, goes, goes, goes))
	if s.IntN(20) == 0 {
		cell.Head.Props = property.Set(cell.Head.Props, api.KeyVMerge, pick(s, 0, 3, -1, math.MaxInt))
	}
	if span == 1 && s.IntN(5) == 0 {
		cell.Head.Props = property.Set(cell.Head.Props, api.KeyColSpan, 1)
	}
	if s.IntN(3) == 0 {
		cell.Head.Props = property.Set(cell.Head.Props, api.KeyShade, 5)
		cell.Head.Marks = api.Marks{Ins: 1, Dels: []api.Del{{Rev: 2}}}
	}
	if s.IntN(6) == 0 {
		cell.Flow = []api.Item{{Kind: api.Text, Text: "a"}, {Kind: api.Para}}
	}
	cell.Id = s.IntN(9)
	return cell
}

// area returns an area, which is most often one that divides no rectangle of a table.
func (s source) area(rows []api.Row) grid.Area {
	a := grid.Area{Top: s.IntN(4) - 1, Left: s.IntN(5) - 1, Bottom: s.IntN(6), Right: s.IntN(7)}
	if all := areas(len(rows), min(naiveColumns(rows), 6)); len(all) > 0 && s.IntN(5) > 0 {
		a = pick(s, all...)
		rects := naiveRects(rows)
		for !closed(rects, a) {
			a = pick(s, all...)
			if s.IntN(20) == 0 {
				break
			}
		}
	}
	return a
}

// value returns a property without layer 7.
func value(cell api.Cell, key, preset int) int {
	for _, p := range cell.Head.Props {
		if p.Key == key {
			return p.Value
		}
	}
	return preset
}

func merge(cell api.Cell) int { return value(cell, api.KeyVMerge, none) }

// naiveSpans gives columns to cells one column after the other.
func naiveSpans(r api.Row) []grid.Span {
	var l []grid.Span
	column := 0
	for _, cell := range r.Cells {
		s := grid.Span{From: column, To: column}
		for left := max(value(cell, api.KeyColSpan, 1), 1); left > 0 && s.To < 32; left-- {
			s.To++
		}
		l = append(l, s)
		column = s.To
	}
	return l
}

// above returns the index of the cell that a cell continues, or -1.
func above(rows []api.Row, row, cell int) int {
	s := naiveSpans(rows[row])[cell]
	if row == 0 || s.From == s.To || merge(rows[row].Cells[cell]) != goes {
		return -1
	}
	for i, other := range naiveSpans(rows[row-1]) {
		if m := merge(rows[row-1].Cells[i]); other == s && (m == start || m == goes) {
			return i
		}
	}
	return -1
}

// naivePlace goes up to the start of a rectangle, and down to its end.
func naivePlace(rows []api.Row, row, cell int) grid.Rect {
	s := naiveSpans(rows[row])[cell]
	for up := above(rows, row, cell); up >= 0; up = above(rows, row, cell) {
		row, cell = row-1, up
	}
	bottom := row + 1
	for i := cell; bottom < len(rows); bottom++ {
		below := slices.Index(naiveSpans(rows[bottom]), s)
		if below < 0 || above(rows, bottom, below) != i {
			break
		}
		i = below
	}
	return rect(row, cell, s.From, bottom, s.To)
}

func naiveRects(rows []api.Row) []grid.Rect {
	var l []grid.Rect
	for row, r := range rows {
		for cell, s := range naiveSpans(r) {
			if s.From < s.To && above(rows, row, cell) < 0 {
				l = append(l, naivePlace(rows, row, cell))
			}
		}
	}
	return l
}

func naiveColumns(rows []api.Row) int {
	columns := 0
	for _, r := range rows {
		for _, s := range naiveSpans(r) {
			columns = max(columns, s.To)
		}
	}
	return columns
}

// inside reports whether an area contains another one, and apart whether they have no square in common.
func inside(a, outer grid.Area) bool {
	return outer.Top <= a.Top && a.Bottom <= outer.Bottom && outer.Left <= a.Left && a.Right <= outer.Right
}
func apart(a, b grid.Area) bool {
	return a.Bottom <= b.Top || b.Bottom <= a.Top || a.Right <= b.Left || b.Right <= a.Left
}

// closed reports whether no rectangle lies partly in an area.
func closed(rects []grid.Rect, a grid.Area) bool {
	return !slices.ContainsFunc(rects, func(r grid.Rect) bool { return !inside(r.Area, a) && !apart(r.Area, a) })
}

// areas returns all areas of a grid.
func areas(rows, columns int) []grid.Area {
	var l []grid.Area
	for top := range rows {
		for bottom := top + 1; bottom <= rows; bottom++ {
			for left := range columns {
				for right := left + 1; right <= columns; right++ {
					l = append(l, grid.Area{Top: top, Left: left, Bottom: bottom, Right: right})
				}
			}
		}
	}
	return l
}

// smallTables calls a function for all tables of some rows of at most two cells, with the spans 1 and 2.
func smallTables(rows int, call func([]api.Row)) {
	cells := []api.Cell{c(1, none), c(1, start), c(1, goes), c(2, none), c(2, start), c(2, goes)}
	some := []api.Row{row()}
	for _, a := range cells {
		some = append(some, row(a))
		for _, b := range cells {
			some = append(some, row(a, b))
		}
	}
	var extend func(l []api.Row)
	extend = func(l []api.Row) {
		call(l)
		for i := 0; i < len(some) && len(l) < rows; i++ {
			extend(append(slices.Clone(l), some[i]))
		}
	}
	extend(nil)
}

func TestP1AllArguments(t *testing.T) {
	s := newSource()
	mixed := row(api.Cell{Head: api.Head{Props: []api.Prop{{Key: api.KeyVMerge, Value: 1}, {Key: api.KeyColSpan, Value: 3}, {Key: api.KeyColSpan, Value: 2}, {Key: 1, Value: 1}}}}, c(2, goes))
	for _, rows := range [][]api.Row{nil, {}, table(row()), table(mixed, mixed, mixed), s.table(5), s.table(5), table(many(40), many(40))} {
		for _, a := range samples.Numbers() {
			if l, e := grid.Spans(rows, a); e != api.OK && len(l) > 0 {
				t.Errorf("Spans(%+v, %d) = %v, %d", rows, a, l, e)
			}
			for _, b := range samples.Numbers() {
				if r, e := grid.Place(rows, a, b); e != api.OK && r != (grid.Rect{}) {
					t.Errorf("Place(%+v, %d, %d) = %v, %d", rows, a, b, r, e)
				}
				if cell, e := grid.At(rows, a, b); e != api.OK && cell != 0 {
					t.Errorf("At(%+v, %d, %d) = %d, %d", rows, a, b, cell, e)
				}
				for _, x := range samples.Numbers() {
					if l, e := grid.Split(rows, a, b, x); e != api.OK && len(l) > 0 {
						t.Errorf("Split(%+v, %d, %d, %d) = %+v, %d", rows, a, b, x, l, e)
					}
					for _, y := range samples.Numbers() {
						checkArea(t, rows, grid.Area{Top: a, Left: b, Bottom: x, Right: y})
					}
				}
			}
		}
		grid.Rects(rows)
		grid.Regular(rows)
	}
}

func checkArea(t *testing.T, rows []api.Row, a grid.Area) {
	t.Helper()
	if b, e := grid.Cover(rows, a); e != api.OK && b != (grid.Area{}) {
		t.Errorf("Cover(%+v, %v) = %v, %d", rows, a, b, e)
	}
	if l, e := grid.Merge(rows, a); e != api.OK && len(l) > 0 {
		t.Errorf("Merge(%+v, %v) = %+v, %d", rows, a, l, e)
	}
}

func TestP12_1SpansAndColumns(t *testing.T) {
	type S = grid.Span
	for _, x := range []struct {
		r    api.Row
		want []S
	}{
		{row(), nil}, {row(c(1, none)), []S{{0, 1}}}, {row(c(2, start), c(1, none)), []S{{0, 2}, {2, 3}}}, {row(c(0, none), c(-7, goes), c(math.MinInt, none), c(3, 9)), []S{{0, 1}, {1, 2}, {2, 3}, {3, 6}}},
		{row(c(32, none)), []S{{0, 32}}}, {row(c(33, none)), []S{{0, 32}}}, {row(c(math.MaxInt, none), c(1, none), c(math.MaxInt, none)), []S{{0, 32}, {32, 32}, {32, 32}}},
		{row(c(31, none), c(math.MaxInt, none), c(0, none)), []S{{0, 31}, {31, 32}, {32, 32}}}, {row(c(30, none), c(1, none), c(1, none), c(1, none)), []S{{0, 30}, {30, 31}, {31, 32}, {32, 32}}},
	} {
		rows := table(many(2), x.r)
		if got, e := grid.Spans(rows, 1); !slices.Equal(got, x.want) || e != api.OK {
			t.Errorf("Spans(%+v) = %v, %d; want %v", x.r, got, e, x.want)
		}
		if got := grid.Columns(rows); got != naiveColumns(rows) {
			t.Errorf("Columns(%+v) = %d", x.r, got)
		}
	}
	for _, n := range []int{math.MinInt, -1, 2, 3, math.MaxInt} {
		if l, e := grid.Spans(example(), n); len(l) > 0 || e != api.ErrRange {
			t.Errorf("Spans(%d) = %v, %d", n, l, e)
		}
	}
	for want, rows := range [][]api.Row{table(row(), row()), table(many(1)), table(many(1), many(2)), table(many(3), row()), table(many(2), row(c(4, none)), many(1))} {
		if got := grid.Columns(rows); got != want {
			t.Errorf("Columns(%+v) = %d", rows, got)
		}
	}
	if grid.Columns(nil) != 0 || grid.Columns(table(many(40))) != 32 || grid.Columns(example()) != 3 {
		t.Error("Columns is wrong")
	}
}

func TestP12_2Rects(t *testing.T) {
	type R = []grid.Rect
	for _, x := range []struct {
		rows []api.Row
		want R
	}{
		{nil, nil}, {table(row(), row()), nil}, {example(), R{rect(0, 0, 0, 2, 2), rect(0, 1, 2, 1, 3), rect(1, 1, 2, 2, 3)}}, {example()[1:], R{rect(0, 0, 0, 1, 2), rect(0, 1, 2, 1, 3)}},
		{table(row(c(2, start), c(1, none)), row(c(1, goes), c(1, none))), R{rect(0, 0, 0, 1, 2), rect(0, 1, 2, 1, 3), rect(1, 0, 0, 2, 1), rect(1, 1, 1, 2, 2)}},
		{table(row(c(1, goes)), row(c(1, goes)), row(c(1, goes)), row(c(1, start)), row(c(1, goes))), R{rect(0, 0, 0, 3, 1), rect(3, 0, 0, 5, 1)}},
		{table(row(c(1, none)), row(c(1, goes)), row(c(1, goes)), row(c(1, 3)), row(c(1, goes)), row(c(1, -1))), R{rect(0, 0, 0, 1, 1), rect(1, 0, 0, 3, 1), rect(3, 0, 0, 4, 1), rect(4, 0, 0, 5, 1), rect(5, 0, 0, 6, 1)}},
		{table(row(c(1, start)), row(), row(c(1, goes)), row(c(1, goes))), R{rect(0, 0, 0, 1, 1), rect(2, 0, 0, 4, 1)}},
		{table(row(c(1, start), c(2, start)), row(c(2, goes), c(1, goes))), R{rect(0, 0, 0, 1, 1), rect(0, 1, 1, 1, 3), rect(1, 0, 0, 2, 2), rect(1, 1, 2, 2, 3)}},
		{table(row(c(30, none), c(40, start), c(1, start)), row(c(30, start), c(2, goes), c(1, goes))), R{rect(0, 0, 0, 1, 30), rect(0, 1, 30, 2, 32), rect(1, 0, 0, 2, 30)}},
		{table(row(c(-3, start)), row(c(0, goes)), row(c(1, goes))), R{rect(0, 0, 0, 3, 1)}},
	} {
		if got := grid.Rects(x.rows); !slices.Equal(got, x.want) {
			t.Errorf("Rects(%+v) = %v; want %v", x.rows, got, x.want)
		}
	}
	smallTables(2, func(rows []api.Row) { checkRects(t, rows) })
	s := newSource()
	for range 10000 {
		checkRects(t, s.table(6))
	}
}

// checkRects checks Rects and Place for a table.
func checkRects(t *testing.T, rows []api.Row) {
	t.Helper()
	if got, want := grid.Rects(rows), naiveRects(rows); !slices.Equal(got, want) {
		t.Fatalf("Rects(%+v) = %v; want %v", rows, got, want)
	}
	for i, r := range rows {
		for j, s := range naiveSpans(r) {
			got, e := grid.Place(rows, i, j)
			if s.From == s.To && (got != (grid.Rect{}) || e != api.ErrGrid) {
				t.Fatalf("Place(%+v, %d, %d) = %v, %d", rows, i, j, got, e)
			}
			if s.From < s.To && (got != naivePlace(rows, i, j) || e != api.OK) {
				t.Fatalf("Place(%+v, %d, %d) = %v, %d", rows, i, j, got, e)
			}
		}
	}
}

func TestP12_2Place(t *testing.T) {
	rows := table(row(c(32, start), c(1, start)), row(c(32, goes), c(1, goes)), row())
	for _, x := range []struct {
		row, cell int
		want      grid.Rect
		e         api.Errno
	}{
		{0, 0, rect(0, 0, 0, 2, 32), api.OK}, {1, 0, rect(0, 0, 0, 2, 32), api.OK}, {0, 1, grid.Rect{}, api.ErrGrid}, {1, 1, grid.Rect{}, api.ErrGrid},
		{-1, 0, grid.Rect{}, api.ErrRange}, {3, 0, grid.Rect{}, api.ErrRange}, {0, -1, grid.Rect{}, api.ErrRange}, {1, 2, grid.Rect{}, api.ErrRange}, {2, 0, grid.Rect{}, api.ErrRange}, {math.MaxInt, math.MinInt, grid.Rect{}, api.ErrRange},
	} {
		if got, e := grid.Place(rows, x.row, x.cell); got != x.want || e != x.e {
			t.Errorf("Place(%d, %d) = %v, %d; want %v, %d", x.row, x.cell, got, e, x.want, x.e)
		}
	}
}

func TestP12_3At(t *testing.T) {
	s := newSource()
	for range 3000 {
		rows := s.table(3)
		for i, r := range rows {
			for column := range 32 {
				want := slices.IndexFunc(naiveSpans(r), func(s grid.Span) bool { return s.From <= column && column < s.To })
				got, e := grid.At(rows, i, column)
				if want >= 0 && (got != want || e != api.OK) || want < 0 && (got != 0 || e != api.ErrNotFound) {
					t.Fatalf("At(%+v, %d, %d) = %d, %d", rows, i, column, got, e)
				}
			}
			for _, column := range []int{math.MinInt, -1, 32, 33, math.MaxInt} {
				if got, e := grid.At(rows, i, column); got != 0 || e != api.ErrRange {
					t.Fatalf("At(%+v, %d, %d) = %d, %d", rows, i, column, got, e)
				}
			}
		}
		for _, i := range []int{math.MinInt, -1, len(rows), math.MaxInt} {
			if got, e := grid.At(rows, i, 0); got != 0 || e != api.ErrRange {
				t.Fatalf("At(%+v, %d, 0) = %d, %d", rows, i, got, e)
			}
		}
	}
	rows := table(row(c(2, none), c(40, none), c(1, none)), row())
	if cell, e := grid.At(rows, 0, 31); cell != 1 || e != api.OK {
		t.Errorf("At(0, 31) = %d, %d", cell, e)
	}
	if cell, e := grid.At(rows, 1, 0); cell != 0 || e != api.ErrNotFound {
		t.Errorf("At(1, 0) = %d, %d", cell, e)
	}
}

func TestP12_4Cover(t *testing.T) {
	smallTables(2, func(rows []api.Row) {
		for _, a := range areas(len(rows), naiveColumns(rows)) {
			checkCover(t, rows, a)
		}
	})
	s := newSource()
	for range 1500 {
		rows := s.table(6)
		for _, a := range areas(len(rows), min(naiveColumns(rows), 9)) {
			if s.IntN(10) == 0 {
				checkCover(t, rows, a)
			}
		}
	}
}

// checkCover checks that the cover of an area lies in all areas that it could be.
func checkCover(t *testing.T, rows []api.Row, a grid.Area) {
	t.Helper()
	got, e := grid.Cover(rows, a)
	rects := naiveRects(rows)
	if e != api.OK || !inside(a, got) || !closed(rects, got) || got.Right > naiveColumns(rows) || got.Bottom > len(rows) {
		t.Fatalf("Cover(%+v, %v) = %v, %d", rows, a, got, e)
	}
	for _, b := range areas(len(rows), min(naiveColumns(rows), 9)) {
		if inside(a, b) && closed(rects, b) && !inside(got, b) {
			t.Fatalf("Cover(%+v, %v) = %v; want %v", rows, a, got, b)
		}
	}
}

func TestP12_4CoverErrors(t *testing.T) {
	rows := table(many(3), row(c(2, none)), many(1))
	for _, a := range []grid.Area{
		{}, {0, 0, 0, 1}, {0, 0, 1, 0}, {-1, 0, 1, 1}, {0, -1, 1, 1}, {0, 0, 4, 1}, {0, 0, 1, 4}, {2, 0, 1, 1}, {1, 1, 2, 1}, {0, 2, 1, 1}, {3, 0, 3, 1}, {3, 0, 4, 1}, {0, 3, 1, 4},
		{math.MinInt, 0, 1, 1}, {0, math.MinInt, 1, 1}, {0, 0, math.MaxInt, 1}, {0, 0, 1, math.MaxInt}, {math.MaxInt, math.MaxInt, math.MinInt, math.MinInt},
	} {
		if got, e := grid.Cover(rows, a); got != (grid.Area{}) || e != api.ErrRange {
			t.Errorf("Cover(%v) = %v, %d", a, got, e)
		}
		if got, e := grid.Merge(rows, a); len(got) > 0 || e != api.ErrRange {
			t.Errorf("Merge(%v) = %v, %d", a, got, e)
		}
		if got, e := grid.Cover(nil, a); got != (grid.Area{}) || e != api.ErrRange {
			t.Errorf("Cover(nil, %v) = %v, %d", a, got, e)
		}
	}
	for _, a := range []grid.Area{{0, 0, 3, 3}, {2, 2, 3, 3}, {0, 0, 1, 1}} {
		if got, e := grid.Cover(rows, a); got != a || e != api.OK {
			t.Errorf("Cover(%v) = %v, %d", a, got, e)
		}
	}
}

// stairs is a table in which every row but the last begins a rectangle that the next row continues, beside one that ends: the cover of a whole row is the table.
func stairs(rows int) []api.Row {
	l := make([]api.Row, rows)
	for i := range l {
		l[i] = row(c(1, start), c(1, goes))
		if i%2 > 0 {
			l[i] = row(c(1, goes), c(1, start))
		}
	}
	return l
}

func TestP12_4CoverOfStairs(t *testing.T) {
	rows := stairs(1 << 15)
	want := grid.Area{Top: 0, Left: 0, Bottom: 1 << 15, Right: 2}
	for _, top := range []int{0, 1, 1 << 14, 1<<15 - 1} {
		if got, e := grid.Cover(rows, grid.Area{Top: top, Left: 0, Bottom: top + 1, Right: 2}); got != want || e != api.OK {
			t.Errorf("Cover(%d) = %v, %d", top, got, e)
		}
	}
}

func TestP12_5Regular(t *testing.T) {
	for _, x := range []struct {
		rows []api.Row
		want bool
	}{
		{nil, true}, {table(row()), true}, {table(row(), row()), true}, {example(), true}, {squares(3, 4), true}, {table(many(1), row()), false}, {table(row(), many(1)), false}, {table(many(3), row(c(2, none), c(1, goes))), true},
		{table(many(3), many(2)), false}, {table(row(c(2, start), c(1, none)), row(c(1, goes), c(1, none))), false}, {table(many(32)), true}, {table(many(33)), false}, {table(row(c(31, none), c(99, none)), many(32)), true},
		{table(many(32), row(c(32, none), c(1, none))), false}, {table(row(c(0, none), c(-1, none)), row(c(2, none))), true},
	} {
		if got := grid.Regular(x.rows); got != x.want {
			t.Errorf("Regular(%+v) = %v", x.rows, got)
		}
	}
	s := newSource()
	regular := 0
	for range 10000 {
		rows := s.table(4)
		want := !slices.ContainsFunc(rows, func(r api.Row) bool {
			return slices.ContainsFunc(naiveSpans(r), func(s grid.Span) bool { return s.From == s.To })
		})
		for i := range rows {
			for column := range naiveColumns(rows) {
				_, e := grid.At(rows, i, column)
				want = want && e == api.OK
			}
		}
		if got := grid.Regular(rows); got != want {
			t.Fatalf("Regular(%+v) = %v", rows, got)
		}
		if want && len(rows) > 1 && naiveColumns(rows) > 0 {
			regular++
		}
	}
	if regular < 500 {
		t.Errorf("only %d tables were regular", regular)
	}
}

// naiveMerge returns what the chapter says of merging, without its errors.
func naiveMerge(rows []api.Row, a grid.Area) []api.Row {
	merged := copied(rows)
	for i := a.Top; i < a.Bottom; i++ {
		var cells []api.Cell
		for j, s := range naiveSpans(rows[i]) {
			cell := merged[i].Cells[j]
			if s.From >= a.Left && s.From < a.Right {
				if s.From > a.Left {
					continue
				}
				set(&cell, api.KeyColSpan, a.Right-a.Left, a.Right-a.Left > 1)
				set(&cell, api.KeyVMerge, start, a.Bottom-a.Top > 1)
				if i > a.Top {
					set(&cell, api.KeyVMerge, goes, true)
				}
			}
			cells = append(cells, cell)
		}
		merged[i].Cells = cells
	}
	if a.Bottom-a.Top > 1 && a.Bottom < len(rows) {
		for j, s := range naiveSpans(rows[a.Bottom]) {
			if s == (grid.Span{From: a.Left, To: a.Right}) && merge(rows[a.Bottom].Cells[j]) == goes {
				set(&merged[a.Bottom].Cells[j], api.KeyVMerge, start, true)
			}
		}
	}
	return merged
}

// set removes a property, and puts it in again if has is true.
func set(cell *api.Cell, key, value int, has bool) {
	cell.Head.Props = slices.DeleteFunc(cell.Head.Props, func(p api.Prop) bool { return p.Key == key })
	if has {
		cell.Head.Props = append(cell.Head.Props, api.Prop{Key: key, Value: value})
	}
	slices.SortFunc(cell.Head.Props, func(p, q api.Prop) int { return p.Key - q.Key })
}

func copied(rows []api.Row) []api.Row {
	var l []api.Row
	for _, r := range rows {
		l = append(l, run.CloneRow(r))
	}
	return l
}

// mergeError returns the error of merging an area in a table.
func mergeError(rows []api.Row, a grid.Area) api.Errno {
	columns := naiveColumns(rows)
	if !(0 <= a.Top && a.Top < a.Bottom && a.Bottom <= len(rows) && 0 <= a.Left && a.Left < a.Right && a.Right <= columns) {
		return api.ErrRange
	}
	if !closed(naiveRects(rows), a) {
		return api.ErrGrid
	}
	content := false
	for i := a.Top; i < a.Bottom; i++ {
		spans := naiveSpans(rows[i])
		for column := a.Left; column < a.Right; column++ {
			cell := slices.IndexFunc(spans, func(s grid.Span) bool { return s.From <= column && column < s.To })
			if cell < 0 {
				return api.ErrGrid
			}
			first := i == a.Top && spans[cell].From == a.Left
			content = content || !first && len(rows[i].Cells[cell].Flow) > 0
		}
	}
	if content {
		return api.ErrState
	}
	return api.OK
}

func TestP12_6Merge(t *testing.T) {
	s := newSource()
	errors := make(map[api.Errno]int)
	for range 10000 {
		rows := s.table(5)
		a := s.area(rows)
		before := show(rows)
		want, wantErr := []api.Row(nil), mergeError(rows, a)
		errors[wantErr]++
		if wantErr == api.OK {
			want = naiveMerge(rows, a)
		}
		got, e := grid.Merge(rows, a)
		if show(got) != show(want) || e != wantErr {
			t.Fatalf("Merge(%+v, %v) = %+v, %d; want %+v, %d", rows, a, got, e, want, wantErr)
		}
		if show(rows) != before || !samples.Apart(rows, got) {
			t.Fatalf("Merge(%+v, %v) = %+v changes or shares memory", rows, a, got)
		}
		if e == api.OK {
			checkMerged(t, rows, got, a)
		}
	}
	for _, e := range []api.Errno{api.OK, api.ErrRange, api.ErrGrid, api.ErrState} {
		if errors[e] < 500 {
			t.Errorf("the error %d came only %d times", e, errors[e])
		}
	}
}

// checkMerged checks P12.8 for a table in which an area was merged.
func checkMerged(t *testing.T, rows, merged []api.Row, a grid.Area) {
	t.Helper()
	var others []grid.Area
	for _, r := range naiveRects(rows) {
		if apart(r.Area, a) {
			others = append(others, r.Area)
		}
	}
	found := false
	for _, r := range grid.Rects(merged) {
		switch {
		case r.Area == a:
			found = true
		case len(others) == 0 || r.Area != others[0]:
			t.Fatalf("Merge(%+v, %v) has made a rectangle %v", rows, a, r)
		default:
			others = others[1:]
		}
	}
	if !found || len(others) > 0 {
		t.Fatalf("Merge(%+v, %v) = %+v", rows, a, merged)
	}
	cell, _ := grid.At(merged, a.Top, a.Left)
	divided, e := grid.Split(merged, a.Top, cell, 100)
	if e != api.OK {
		t.Fatalf("Split(%+v, %d, %d): %d", merged, a.Top, cell, e)
	}
	for i := a.Top; i < a.Bottom; i++ {
		for column := a.Left; column < a.Right; column++ {
			cell, _ := grid.At(divided, i, column)
			if r, e := grid.Place(divided, i, cell); r != rect(i, cell, column, i+1, column+1) || e != api.OK {
				t.Fatalf("%+v was divided to %+v: %v, %d", merged, divided, r, e)
			}
		}
	}
}

func TestP12_6MergeExamples(t *testing.T) {
	text := api.Item{Kind: api.Text, Text: "a"}
	void := api.Item{Kind: api.Text}
	type A = grid.Area
	for i, x := range []struct {
		rows, want []api.Row
		a          A
		e          api.Errno
	}{
		{squares(2, 2), table(row(c(2, none)), many(2)), A{0, 0, 1, 2}, api.OK},
		{squares(2, 2), table(row(c(1, start), c(1, none)), row(c(1, goes), c(1, none))), A{0, 0, 2, 1}, api.OK},
		{squares(3, 3), table(many(3), row(c(1, none), c(2, start)), row(c(1, none), c(2, goes))), A{1, 1, 3, 3}, api.OK},
		{table(row(c(2, start)), many(2)), table(row(c(2, none)), many(2)), A{0, 0, 1, 2}, api.OK}, // only the merge goes
		{table(row(c(1, 3), c(1, start))), table(row(c(1, none), c(1, start))), A{0, 0, 1, 1}, api.OK},
		{table(many(2), many(2), row(c(2, goes)), row(c(2, goes))), table(row(c(2, start)), row(c(2, goes)), row(c(2, start)), row(c(2, goes))), A{0, 0, 2, 2}, api.OK},
		{table(many(2), many(2), row(c(2, start)), row(c(2, goes))), table(row(c(2, start)), row(c(2, goes)), row(c(2, start)), row(c(2, goes))), A{0, 0, 2, 2}, api.OK},
		{table(many(2), many(2), row(c(2, none))), table(row(c(2, start)), row(c(2, goes)), row(c(2, none))), A{0, 0, 2, 2}, api.OK},
		{table(many(2), many(2), row(c(1, goes), c(1, none))), table(row(c(2, start)), row(c(2, goes)), row(c(1, goes), c(1, none))), A{0, 0, 2, 2}, api.OK}, // other columns
		{table(many(2), row(c(2, goes))), table(row(c(2, none)), row(c(2, goes))), A{0, 0, 1, 2}, api.OK},                                                    // one row is not continued
		{table(row(c(31, none), c(5, none), c(1, none), c(1, none))), table(row(c(32, none), c(1, none), c(1, none))), A{0, 0, 1, 32}, api.OK},               // cells without columns stay
		{table(row(with(c(1, none), text), c(1, none)), many(2)), table(row(with(c(2, start), text)), row(c(2, goes))), A{0, 0, 2, 2}, api.OK},
		{table(row(with(c(1, none), text), with(c(1, none), void))), nil, A{0, 0, 1, 2}, api.ErrState},
		{table(row(c(1, none), with(c(1, none), text))), nil, A{0, 0, 1, 2}, api.ErrState},
		{table(many(2), row(with(c(1, none), text), c(1, none))), nil, A{0, 0, 2, 2}, api.ErrState},
		{table(row(c(1, none), c(1, none), with(c(1, none), text))), table(row(c(2, none), with(c(1, none), text))), A{0, 0, 1, 2}, api.OK}, // content beside the area
		{example(), nil, A{0, 0, 1, 2}, api.ErrGrid}, {example(), nil, A{0, 1, 2, 3}, api.ErrGrid}, {example(), nil, A{1, 0, 2, 3}, api.ErrGrid}, {table(row(with(c(2, none), text), with(c(1, none), text))), nil, A{0, 1, 1, 3}, api.ErrGrid},
		{table(many(2), many(1)), nil, A{0, 0, 2, 2}, api.ErrGrid}, {table(many(2), row()), nil, A{0, 0, 2, 1}, api.ErrGrid}, {table(many(3), row(with(c(1, none), text))), nil, A{0, 0, 2, 2}, api.ErrGrid},
	} {
		if got, e := grid.Merge(x.rows, x.a); show(got) != show(x.want) || e != x.e {
			t.Errorf("%d: Merge(%+v, %v) = %+v, %d; want %+v, %d", i, x.rows, x.a, got, e, x.want, x.e)
		}
	}
}

// TestP12_6MergeKeeps checks that what is not merged stays in the rows and in the first cells.
func TestP12_6MergeKeeps(t *testing.T) {
	shade := api.Prop{Key: api.KeyShade, Value: 5}
	head := api.Head{Props: []api.Prop{{Key: api.KeyHeader, Value: 1}}, Marks: api.Marks{Ins: 1}}
	cell := func(id int, props ...api.Prop) api.Cell {
		return api.Cell{Id: id, Head: api.Head{Props: props, Marks: api.Marks{Dels: []api.Del{{Rev: id}}}}}
	}
	span, begins, continues := api.Prop{Key: api.KeyColSpan, Value: 2}, api.Prop{Key: api.KeyVMerge, Value: start}, api.Prop{Key: api.KeyVMerge, Value: goes}
	rows := table(api.Row{Head: head, Cells: []api.Cell{cell(1, shade), cell(2), cell(3)}}, api.Row{Cells: []api.Cell{cell(4), cell(5, shade), cell(6, shade)}})
	want := table(api.Row{Head: head, Cells: []api.Cell{cell(1, span, begins, shade), cell(3)}}, api.Row{Cells: []api.Cell{cell(4, span, continues), cell(6, shade)}})
	if got, e := grid.Merge(rows, grid.Area{Top: 0, Left: 0, Bottom: 2, Right: 2}); show(got) != show(want) || e != api.OK {
		t.Errorf("Merge = %+v, %d; want %+v", got, e, want)
	}
}

// naiveSplit returns what the chapter says of dividing a rectangle.
func naiveSplit(rows []api.Row, a grid.Area, fresh int) []api.Row {
	divided := copied(rows)
	for i := a.Top; i < a.Bottom; i++ {
		var cells []api.Cell
		for j, s := range naiveSpans(rows[i]) {
			cell := divided[i].Cells[j]
			if s.From != a.Left {
				cells = append(cells, cell)
				continue
			}
			set(&cell, api.KeyColSpan, 0, false)
			set(&cell, api.KeyVMerge, 0, false)
			cells = append(cells, cell)
			for range s.To - s.From - 1 {
				cells = append(cells, api.Cell{Id: fresh})
				fresh++
			}
		}
		divided[i].Cells = cells
	}
	return divided
}

func TestP12_7Split(t *testing.T) {
	s := newSource()
	divisions := 0
	for range 3000 {
		rows := s.table(5)
		before := show(rows)
		for i, r := range rows {
			for j, span := range naiveSpans(r) {
				got, e := grid.Split(rows, i, j, 50)
				if span.From == span.To {
					if len(got) > 0 || e != api.ErrGrid {
						t.Fatalf("Split(%+v, %d, %d) = %+v, %d", rows, i, j, got, e)
					}
					continue
				}
				a := naivePlace(rows, i, j).Area
				if want := naiveSplit(rows, a, 50); show(got) != show(want) || e != api.OK || !samples.Apart(rows, got) {
					t.Fatalf("Split(%+v, %d, %d) = %+v, %d; want %+v", rows, i, j, got, e, want)
				}
				if a.Bottom-a.Top > 1 && a.Right-a.Left > 1 {
					divisions++
				}
			}
		}
		if show(rows) != before {
			t.Fatalf("Split changed %s to %+v", before, rows)
		}
	}
	if divisions < 500 {
		t.Errorf("only %d large rectangles", divisions)
	}
}

func TestP12_7SplitExamples(t *testing.T) {
	text := api.Item{Kind: api.Text, Text: "a"}
	first := with(c(3, start), text)
	first.Id, first.Head.Marks.Ins = 1, 2
	single := with(c(1, none), text)
	single.Id, single.Head.Marks.Ins = 1, 2
	rows := table(row(first, c(1, none)), row(c(3, goes), c(1, none)), row(c(3, none), c(1, none)))
	want := table(row(single, api.Cell{Id: 7}, api.Cell{Id: 8}, c(1, none)), row(c(1, none), api.Cell{Id: 9}, api.Cell{Id: 10}, c(1, none)), row(c(3, none), c(1, none)))
	for i := range 2 {
		if got, e := grid.Split(rows, i, 0, 7); show(got) != show(want) || e != api.OK {
			t.Errorf("Split(%d, 0) = %+v, %d; want %+v", i, got, e, want)
		}
	}
	if got, e := grid.Split(rows, 0, 1, 7); show(got) != show(rows) || e != api.OK || !samples.Apart(rows, got) {
		t.Errorf("Split(0, 1) = %+v, %d", got, e)
	}
	preset := table(row(api.Cell{Head: api.Head{Props: []api.Prop{{Key: api.KeyColSpan, Value: 1}, {Key: api.KeyVMerge, Value: none}, {Key: api.KeyShade, Value: 1}}}}))
	if got, e := grid.Split(preset, 0, 0, 7); e != api.OK || show(got[0].Cells[0].Head.Props) != "[{Key:63 Value:1}]" {
		t.Errorf("Split = %+v, %d", got, e)
	}
}

func TestP12_7SplitErrors(t *testing.T) {
	rows := table(row(c(3, start), c(30, none), c(1, none)), row(c(3, goes), c(29, none)), row(c(1, none)))
	for _, x := range []struct {
		row, cell, fresh int
		want             api.Errno
	}{
		{-1, 0, 0, api.ErrRange}, {3, 0, 0, api.ErrRange}, {0, -1, 0, api.ErrRange}, {0, 3, 0, api.ErrRange}, {0, 2, 0, api.ErrGrid}, {0, 2, 5, api.ErrGrid},
		{0, 0, 0, api.ErrId}, {0, 0, -1, api.ErrId}, {0, 0, math.MinInt, api.ErrId}, {0, 0, math.MaxInt, api.ErrId}, {0, 0, api.MaxId + 1, api.ErrId}, {0, 0, api.MaxId, api.ErrId}, {0, 0, api.MaxId - 2, api.ErrId}, {1, 0, api.MaxId - 3, api.OK}, {0, 0, 1, api.OK},
		{2, 0, api.MaxId, api.OK}, {2, 0, api.MaxId + 1, api.ErrId}, {2, 0, 0, api.ErrId}, {2, 0, 1, api.OK}, {0, 1, api.MaxId - 27, api.OK}, {0, 1, api.MaxId - 26, api.ErrId},
	} {
		if got, e := grid.Split(rows, x.row, x.cell, x.fresh); e != x.want || (len(got) > 0) != (e == api.OK) {
			t.Errorf("Split(%d, %d, %d) = %+v, %d; want %d", x.row, x.cell, x.fresh, got, e, x.want)
		}
	}
}

func TestP12_8Consequences(t *testing.T) {
	s := newSource()
	for range 2000 {
		rows := s.table(5)
		covered := make(map[[2]int]int)
		squares := 0
		for _, r := range grid.Rects(rows) {
			for i := r.Area.Top; i < r.Area.Bottom; i++ {
				for column := r.Area.Left; column < r.Area.Right; column++ {
					covered[[2]int{i, column}]++
					squares++
				}
			}
		}
		if len(covered) != squares || grid.Regular(rows) && squares != len(rows)*grid.Columns(rows) {
			t.Fatalf("the rectangles of %+v have %d squares", rows, squares)
		}
		for i := range rows {
			checkRects(t, slices.Delete(slices.Clone(rows), i, i+1))
			for j := range rows[i].Cells {
				fewer := slices.Clone(rows)
				fewer[i].Cells = slices.Delete(slices.Clone(rows[i].Cells), j, j+1)
				checkRects(t, fewer)
			}
		}
	}
}

func TestP12NewMemory(t *testing.T) {
	rows := example()
	before := show(rows)
	spans, _ := grid.Spans(rows, 0)
	rects := grid.Rects(rows)
	spans[0], rects[0] = grid.Span{From: 9, To: 9}, grid.Rect{}
	if again, _ := grid.Spans(rows, 0); again[0] != (grid.Span{From: 0, To: 2}) || grid.Rects(rows)[0] != rect(0, 0, 0, 2, 2) || show(rows) != before {
		t.Error("results are shared")
	}
}
