package mapping

import (
	"iter"
	"slices"

	"obelus/api"
	"obelus/run"
)

// flows yields the flows in a piece with their ids, in document order.
func flows(p api.Piece) iter.Seq2[int, []api.Item] {
	return func(yield func(int, []api.Item) bool) {
		v := visitor(yield)
		_ = v.items(p.Items) && v.rows(p.Rows) && v.cells(p.Cells)
	}
}

// visitor is called for each flow, until it returns false. All depths share it, because a chain of iterators would make deep flows slow.
type visitor func(id int, l []api.Item) bool

func (v visitor) items(l []api.Item) bool {
	for _, item := range l {
		switch item.Kind {
		case api.Note:
			if !v.flow(item.Id, item.Flow) {
				return false
			}
		case api.Table:
			if !v.rows(item.Rows) {
				return false
			}
		}
	}
	return true
}

func (v visitor) rows(l []api.Row) bool {
	for _, row := range l {
		if !v.cells(row.Cells) {
			return false
		}
	}
	return true
}

func (v visitor) cells(l []api.Cell) bool {
	for _, cell := range l {
		if !v.flow(cell.Id, cell.Flow) {
			return false
		}
	}
	return true
}

func (v visitor) flow(id int, l []api.Item) bool { return v(id, l) && v.items(l) }

// equalFlows tells for each flow in a piece, if another piece has it, too, whether it is equal there. It looks at inner flows first, so that deep ones are not compared again with each flow around them.
func equalFlows(p api.Piece, others map[int][]api.Item) map[int]bool {
	var ids []int
	var contents [][]api.Item
	for id, l := range flows(p) {
		ids, contents = append(ids, id), append(contents, l)
	}
	equal := make(map[int]bool)
	for i, id := range slices.Backward(ids) {
		old, inside := shell(contents[i])
		now, _ := shell(others[id])
		equal[id] = run.Equal(old, now) && !slices.ContainsFunc(inside, func(id int) bool { return !equal[id] })
	}
	return equal
}

// shell returns the items of a flow without the flows in them, and the ids of these.
func shell(l []api.Item) (items []api.Item, inside []int) {
	items = slices.Clone(l)
	for i := range items {
		switch item := &items[i]; item.Kind {
		case api.Note:
			item.Flow = nil
			inside = append(inside, item.Id)
		case api.Table:
			item.Rows = slices.Clone(item.Rows)
			for j := range item.Rows {
				cells := slices.Clone(item.Rows[j].Cells)
				for k := range cells {
					cells[k].Flow = nil
					inside = append(inside, cells[k].Id)
				}
				item.Rows[j].Cells = cells
			}
		}
	}
	return items, inside
}
