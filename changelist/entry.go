package changelist

import (
	"cmp"
	"slices"

	"obelus/api"
	"obelus/document"
	"obelus/run"
)

// change is what marks of neighbouring elements have in common if they are in the same entry.
type change struct{ kind, rev, move, key int }

func changesOf(h api.Head) []change {
	var all []change
	if m := h.Marks; m.Ins != 0 {
		all = append(all, change{kind: Insertion, rev: m.Ins, move: m.Move})
	}
	for _, del := range h.Marks.Dels {
		all = append(all, change{kind: Deletion, rev: del.Rev, move: del.Move})
	}
	for _, layer := range h.Marks.Layers {
		all = append(all, change{kind: Format, rev: layer.Rev, key: layer.Key})
	}
	return all
}

// span is the longest range of neighbouring units that have a key, from the unit from on, before to.
type span[K comparable] struct {
	key      K
	from, to int
}

// spans groups the units of a list of elements by their keys. A unit can have several keys, also the same one several times.
func spans[T any, K comparable](l []T, length func(T) int, keys func(T) []K) []span[K] {
	var all []span[K]
	latest := make(map[K]int) // for each key, the index of its last span
	from := 0
	for _, element := range l {
		to := from + length(element)
		for _, key := range keys(element) {
			if i, found := latest[key]; found && all[i].to >= from {
				all[i].to = to
				continue
			}
			latest[key] = len(all)
			all = append(all, span[K]{key, from, to})
		}
		from = to
	}
	return all
}

// units returns the number of units of an item.
func units(item api.Item) int {
	count, _ := run.Len([]api.Item{item})
	return count
}

// entry returns the entry of a change, at the place of another one.
func (c change) entry(where Entry) Entry {
	where.Kind, where.Rev, where.Move, where.Key = c.kind, c.rev, c.move, c.key
	return where
}

// entriesOf returns the entries of a flow and of the rows and cells of its tables, without those of other flows, in order.
func entriesOf(id int, l []api.Item) []Entry {
	var all []Entry
	changes := func(item api.Item) []change { return changesOf(item.Head) }
	for _, s := range spans(l, units, changes) {
		all = append(all, s.key.entry(Entry{Scope: Items, Range: api.Range{Flow: id, From: s.from, To: s.to}, Row: -1, Cell: -1}))
	}
	at := 0
	for _, item := range l {
		if item.Kind == api.Table {
			all = append(all, entriesOfTable(item, api.Range{Flow: id, From: at, To: at + 1})...)
		}
		at += units(item)
	}
	slices.SortFunc(all, compareEntries)
	return all
}

func entriesOfTable(table api.Item, r api.Range) []Entry {
	var all []Entry
	for i, row := range table.Rows {
		all = append(all, entriesOfHead(row.Head, Entry{Scope: Row, Range: r, Row: i, Cell: -1})...)
		for k, cell := range row.Cells {
			all = append(all, entriesOfHead(cell.Head, Entry{Scope: Cell, Range: r, Row: i, Cell: k})...)
		}
	}
	return all
}

func entriesOfEnd(d api.Document) []Entry {
	length, _ := run.Len(d.Flow)
	all := entriesOfHead(d.End, Entry{Scope: End, Range: api.Range{From: length, To: length}, Row: -1, Cell: -1})
	slices.SortFunc(all, compareEntries)
	return all
}

// entriesOfHead returns the entries of an element that is not in a flow.
func entriesOfHead(h api.Head, where Entry) []Entry {
	var all []Entry
	alone := func(api.Head) int { return 1 }
	for _, s := range spans([]api.Head{h}, alone, changesOf) {
		all = append(all, s.key.entry(where))
	}
	return all
}

// compareEntries is the order of the entries of a flow, and of those of End.
func compareEntries(a, b Entry) int {
	return cmp.Or(
		cmp.Compare(a.Range.From, b.Range.From), cmp.Compare(a.Row, b.Row), cmp.Compare(a.Cell, b.Cell),
		cmp.Compare(a.Kind, b.Kind), cmp.Compare(a.Rev, b.Rev), cmp.Compare(a.Move, b.Move), cmp.Compare(a.Key, b.Key),
	)
}

// around returns a function that compares where an entry begins with a position, if the document has the flow of the position.
func around(d api.Document, p api.Pos) (compare func(e Entry) int, found bool) {
	numbers := make(map[int]int)
	for i, id := range document.Flows(d) {
		numbers[id] = i
	}
	own, found := numbers[p.Flow]
	return func(e Entry) int {
		return cmp.Or(cmp.Compare(numbers[e.Range.Flow], own), cmp.Compare(e.Range.From, p.At))
	}, found
}
