package paragraph

import (
	"iter"
	"slices"

	"obelus/api"
	"obelus/document"
	"obelus/property"
	"obelus/run"
)

// blocks yields the blocks of a divisible flow, each with its items.
func blocks(l []api.Item) iter.Seq2[Block, []api.Item] {
	return func(yield func(Block, []api.Item) bool) {
		from := 0
		for rest := l; len(rest) > 0; {
			count, b := first(rest)
			length, _ := run.Len(rest[:count])
			b.From, b.To = from, from+length
			if length > 0 && !yield(b, rest[:count]) {
				return
			}
			rest, from = rest[count:], b.To
		}
	}
}

// first returns the block with which a flow begins, without its place, and the number of its items. They can be texts without units: there is no such block then.
func first(l []api.Item) (count int, b Block) {
	for i, item := range l {
		switch item.Kind {
		case api.Para:
			return i + 1, Block{Kind: Paragraph, Mark: true}
		case api.Table, api.Section:
			if i > 0 {
				return i, Block{Kind: open(l[:i])}
			}
			return 1, Block{Kind: alone(item.Kind)}
		}
	}
	return len(l), Block{Kind: open(l)}
}

// open returns the kind of the block that some items in front of a table, a section mark or the end of their flow are.
func open(l []api.Item) int {
	isContent := func(item api.Item) bool {
		return item.Kind != api.Anchor && (item.Kind != api.Text || item.Text != "")
	}
	if slices.ContainsFunc(l, isContent) {
		return Paragraph
	}
	return Loose
}

// alone returns the kind of the block of an item that is one by itself.
func alone(kind int) int {
	if kind == api.Table {
		return Table
	}
	return Section
}

// itemsOf returns the items of a block of a flow.
func itemsOf(l []api.Item, wanted Block) ([]api.Item, api.Errno) {
	if _, e := run.Len(l); e != api.OK {
		return nil, e
	}
	for b, items := range blocks(l) {
		if b == wanted {
			return items, api.OK
		}
	}
	return nil, api.ErrNotFound
}

// blockAt returns the block that has a unit, and its items.
func blockAt(l []api.Item, unit int) (Block, []api.Item, api.Errno) {
	if _, e := run.Len(l); e != api.OK {
		return Block{}, nil, e
	}
	for b, items := range blocks(l) {
		if b.From <= unit && unit < b.To {
			return b, items, api.OK
		}
	}
	return Block{}, nil, api.ErrRange
}

// own returns the own properties of a paragraph.
func own(b Block, items []api.Item) []api.Prop {
	if !b.Mark {
		return nil
	}
	return property.Clone(items[len(items)-1].Head.Props)
}

// find returns the own properties of the paragraph that has a unit, and the item that has it.
func find(d api.Document, p api.Pos) (para []api.Prop, item api.Item, e api.Errno) {
	l, found := document.Flow(d, p.Flow)
	if !found {
		return nil, api.Item{}, api.ErrNotFound
	}
	b, items, e := blockAt(l, p.At)
	if e != api.OK {
		return nil, api.Item{}, e
	}
	if b.Kind != Paragraph {
		return nil, api.Item{}, api.ErrKind
	}
	index, _, _ := run.Index(l, p.At)
	return own(b, items), l[index], api.OK
}

// cells returns the cells of a table, row by row.
func cells(table api.Item) []api.Cell {
	var all []api.Cell
	for _, row := range table.Rows {
		all = append(all, row.Cells...)
	}
	return all
}
