package compare

import (
	"slices"

	"obelus/alignment"
	"obelus/api"
	"obelus/blockmatch"
	"obelus/mark"
	"obelus/property"
)

// comparer compares parts of two documents, and marks what differs as changes by a revision. It keeps the first error.
type comparer struct {
	rev int
	e   api.Errno
}

// note keeps an error if it is the first one.
func (c *comparer) note(e api.Errno) {
	if c.e == api.OK {
		c.e = e
	}
}

// changed returns a head with the properties of another one, inserted a head with an insertion, and deleted one with a deletion.
func (c *comparer) changed(from, to api.Head) api.Head {
	h := from
	for _, change := range property.Diff(from.Props, to.Props) {
		next, e := mark.Set(h, c.rev, api.Prop{Key: change.Key, Value: change.New}, !change.Has)
		c.note(e)
		h = next
	}
	return h
}
func (c *comparer) inserted(h api.Head) api.Head { return mark.Insert(h, c.rev, 0) }
func (c *comparer) deleted(h api.Head) api.Head {
	marked, _, e := mark.Delete(h, c.rev, 0)
	c.note(e)
	return marked
}

// flow returns what becomes of two flows that are compared; the following functions do the same for blocks, tokens, tables, rows and cells.
func (c *comparer) flow(a, b []api.Item) []api.Item {
	matches, e := blockmatch.Blocks(a, b)
	c.note(e)
	if e != api.OK {
		return nil
	}
	return c.parts(blocksOf(a), blocksOf(b), pairsOf(matches), c.block)
}

func (c *comparer) block(a, b []api.Item) []api.Item {
	if a[0].Kind == api.Table {
		return []api.Item{c.table(a[0], b[0])}
	}
	k := make(keys)
	own, ownTokens := k.tokens(a)
	other, otherTokens := k.tokens(b)
	pairs, e := alignment.Align(ownTokens, otherTokens, Gap)
	c.note(e)
	return c.parts(own, other, pairs, c.token)
}

func (c *comparer) token(a, b []api.Item) []api.Item {
	units := slices.Clone(a)
	for i := range units {
		units[i].Head = c.changed(a[i].Head, b[i].Head)
		if units[i].Kind == api.Note {
			units[i].Flow = c.flow(a[i].Flow, b[i].Flow)
		}
	}
	return units
}

func (c *comparer) table(a, b api.Item) api.Item {
	matches, e := blockmatch.Rows(a.Rows, b.Rows)
	c.note(e)
	a.Head = c.changed(a.Head, b.Head)
	a.Rows = merge(a.Rows, b.Rows, pairsOf(matches), c.row, onHead(ofRow, c.deleted), onHead(ofRow, c.inserted))
	return a
}

func (c *comparer) row(a, b api.Row) api.Row {
	matches, e := blockmatch.Cells(a.Cells, b.Cells)
	c.note(e)
	a.Head = c.changed(a.Head, b.Head)
	a.Cells = merge(a.Cells, b.Cells, pairsOf(matches), c.cell, onHead(ofCell, c.deleted), onHead(ofCell, c.inserted))
	return a
}

func (c *comparer) cell(a, b api.Cell) api.Cell {
	a.Head = c.changed(a.Head, b.Head)
	a.Flow = c.flow(a.Flow, b.Flow)
	return a
}

// parts returns the units of two lists of blocks or tokens, where those that match become what a function returns.
func (c *comparer) parts(a, b [][]api.Item, pairs []alignment.Pair, match func(x, y []api.Item) []api.Item) []api.Item {
	return slices.Concat(merge(a, b, pairs, match, onEach(onHead(ofItem, c.deleted)), onEach(onHead(ofItem, c.inserted)))...)
}
