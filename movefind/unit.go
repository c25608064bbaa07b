package movefind

import (
	"slices"

	"obelus/api"
	"obelus/flows"
	"obelus/mark"
	"obelus/revision"
	"obelus/run"
)

// unit is a unit of a document: where it stands, and the item that it is by itself.
type unit struct {
	at   api.Pos
	item api.Item
}

// isBehind reports whether a unit follows another one in a flow.
func (u unit) isBehind(other unit) bool {
	return u.at == api.Pos{Flow: other.at.Flow, At: other.at.At + 1}
}

func hasRev(d api.Document, rev int) bool {
	_, found := revision.Find(d.Revs, rev)
	return found
}

// units returns the units of all flows that belong to a side, in document order.
func units(d api.Document, belongs func(item api.Item) bool) []unit {
	var all []unit
	for id, l := range flows.All(d) {
		for at, item := range flows.Units(l) {
			if belongs(item) {
				all = append(all, unit{api.Pos{Flow: id, At: at}, item})
			}
		}
	}
	return all
}

// ranges returns the maximal ranges of units.
func ranges(l []unit) []api.Range {
	var all []api.Range
	for i, u := range l {
		if i > 0 && u.isBehind(l[i-1]) {
			all[len(all)-1].To++
			continue
		}
		all = append(all, api.Range{Flow: u.at.Flow, From: u.at.At, To: u.at.At + 1})
	}
	return all
}

// sourceOf returns a function that reports whether an item has source units of a revision, and targetOf one for target units.
func sourceOf(rev int) func(item api.Item) bool {
	return func(item api.Item) bool {
		m := item.Head.Marks
		return m.Ins == 0 && len(m.Dels) == 1 && m.Dels[0] == api.Del{Rev: rev} && len(m.Layers) == 0 && isMovable(item)
	}
}
func targetOf(rev int) func(item api.Item) bool {
	return func(item api.Item) bool {
		m := item.Head.Marks
		return m.Ins == rev && m.Move == 0 && len(m.Dels) == 0 && len(m.Layers) == 0 && isMovable(item)
	}
}

// isMovable reports whether an item is no anchor, and has no marks in it.
func isMovable(item api.Item) bool {
	return item.Kind != api.Anchor && !slices.ContainsFunc(item.Flow, isMarked) && !slices.ContainsFunc(item.Rows, isMarkedRow)
}

// isMarked reports whether an item, or an element in it, has marks; isMarkedRow and isMarkedCell do the same for rows and cells.
func isMarked(item api.Item) bool {
	return !mark.IsPlain(item.Head) || slices.ContainsFunc(item.Flow, isMarked) || slices.ContainsFunc(item.Rows, isMarkedRow)
}
func isMarkedRow(r api.Row) bool {
	return !mark.IsPlain(r.Head) || slices.ContainsFunc(r.Cells, isMarkedCell)
}
func isMarkedCell(c api.Cell) bool {
	return !mark.IsPlain(c.Head) || slices.ContainsFunc(c.Flow, isMarked)
}

// isUnit reports whether an item is one unit that can be moved.
func isUnit(item api.Item) bool {
	length, _ := run.Len([]api.Item{item})
	return item.Kind >= api.Text && item.Kind <= api.Anchor && length == 1 && isMovable(item)
}
