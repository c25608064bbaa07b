package splice

import (
	"iter"
	"slices"

	"obelus/api"
	"obelus/document"
	"obelus/flows"
	"obelus/run"
)

// change is an edit with the documents, in normal form, before and behind it.
type change struct {
	api.Edit
	before, after api.Document
}

// splicers returns for each kind of edits the function that returns its splices; some of them may be empty.
func splicers() map[int]func(c change) []api.Splice {
	return map[int]func(c change) []api.Splice{
		api.EditInsert:      change.insert,
		api.EditDelete:      change.remove,
		api.EditFormat:      change.format,
		api.EditMove:        change.move,
		api.EditInsertRows:  change.insertRows,
		api.EditDeleteRows:  change.removeRows,
		api.EditInsertCells: change.insertCells,
		api.EditDeleteCells: change.removeCells,
		api.EditFormatRow:   change.formatRow,
		api.EditFormatCell:  change.formatCell,
		api.EditPutAnchor:   change.insert,
		api.EditDropAnchor:  change.dropAnchor,
		api.EditFormatEnd:   change.formatEnd,
		api.EditSettings:    change.settings,
	}
}

// fill returns the splice of a gap between both documents.
func (c change) fill(g gap) []api.Splice { return fill(c.before, c.after, g) }

func (c change) insert() []api.Splice {
	length, _ := run.Len(c.Items)
	return c.fill(gap{kind: api.SpliceItems, id: c.Flow, at: c.At, new: length})
}

func (c change) dropAnchor() []api.Splice {
	return c.fill(gap{kind: api.SpliceItems, id: c.Flow, at: c.At, old: 1})
}

func (c change) remove() []api.Splice {
	old := unitsIn(c.before, c.Flow)
	var l []api.Splice
	for from, to := range c.ranges(func(at int) bool { return old[at].Kind != api.Anchor }) {
		l = append(l, c.swap(from, old[from:to], nil))
	}
	slices.Reverse(l)
	return l
}

func (c change) format() []api.Splice {
	old, new := unitsIn(c.before, c.Flow), unitsIn(c.after, c.Flow)
	var l []api.Splice
	for from, to := range c.ranges(func(at int) bool { return !run.EqualItem(old[at], new[at]) }) {
		l = append(l, c.swap(from, old[from:to], new[from:to]))
	}
	return l
}

func (c change) move() []api.Splice {
	l := c.remove()
	count := 0
	for _, s := range l {
		count += gapOf(s).old
	}
	at := c.ToAt
	if c.To == c.Flow && at > c.At {
		at -= count
	}
	return append(l, c.fill(gap{kind: api.SpliceItems, id: c.To, at: at, new: count})...)
}

func (c change) insertRows() []api.Splice {
	return c.fill(gap{kind: api.SpliceRows, id: c.Flow, at: c.At, new: len(c.Rows)})
}

func (c change) removeRows() []api.Splice {
	table, _ := document.Table(c.before, c.Flow)
	if c.Count < len(table.Rows) {
		return c.fill(gap{kind: api.SpliceRows, id: c.Flow, at: c.At, old: c.Count})
	}
	place, _ := document.Place(c.before, c.Flow)
	return c.fill(gap{kind: api.SpliceItems, id: place.Flow, at: place.At, old: 1})
}

func (c change) insertCells() []api.Splice {
	return c.fill(gap{kind: api.SpliceCells, id: c.Flow, at: c.At, sub: c.Sub, new: len(c.Cells)})
}

func (c change) removeCells() []api.Splice {
	table, _ := document.Table(c.before, c.Flow)
	if c.Count < len(table.Rows[c.At].Cells) {
		return c.fill(gap{kind: api.SpliceCells, id: c.Flow, at: c.At, sub: c.Sub, old: c.Count})
	}
	c.Count = 1
	return c.removeRows()
}

func (c change) formatRow() []api.Splice {
	return c.fill(gap{kind: api.SpliceRow, id: c.Flow, at: c.At})
}

func (c change) formatCell() []api.Splice {
	return c.fill(gap{kind: api.SpliceCell, id: c.Flow, at: c.At, sub: c.Sub})
}

func (c change) formatEnd() []api.Splice { return c.fill(gap{kind: api.SpliceEnd}) }

func (c change) settings() []api.Splice { return c.fill(gap{kind: api.SpliceSet}) }

// ranges yields the longest ranges of units of the edit that have something in common.
func (c change) ranges(has func(at int) bool) iter.Seq2[int, int] {
	return func(yield func(from, to int) bool) {
		for from, end := c.At, c.At+c.Count; from < end; from++ {
			to := from
			for to < end && has(to) {
				to++
			}
			if to > from && !yield(from, to) {
				return
			}
			from = to
		}
	}
}

// swap returns the splice that replaces units of the flow.
func (c change) swap(at int, old, new []api.Item) api.Splice {
	return api.Splice{Kind: api.SpliceItems, Id: c.Flow, At: at, Old: api.Piece{Items: run.Normal(old)}, New: api.Piece{Items: run.Normal(new)}}
}

func unitsIn(d api.Document, flow int) []api.Item {
	l, _ := document.Flow(d, flow)
	return flows.Units(l)
}
