package document_test

import (
	"fmt"
	"math/rand/v2"
	"slices"
	"testing"
	"unicode/utf8"

	"obelus/api"
	"obelus/document"
	"obelus/run"
	"obelus/samples"
)

func text(s string, props ...api.Prop) api.Item {
	return api.Item{Kind: api.Text, Text: s, Head: api.Head{Props: props}}
}
func field(s string) api.Item { return api.Item{Kind: api.Field, Text: s} }
func para(props ...api.Prop) api.Item {
	return api.Item{Kind: api.Para, Head: api.Head{Props: props}}
}
func section() api.Item { return api.Item{Kind: api.Section} }
func note(id int, l ...api.Item) api.Item {
	return api.Item{Kind: api.Note, Code: api.Footnote, Id: id, Flow: l}
}
func anchor(code, id int) api.Item { return api.Item{Kind: api.Anchor, Code: code, Id: id} }
func table(id int, rows ...api.Row) api.Item {
	return api.Item{Kind: api.Table, Id: id, Rows: rows}
}
func row(cells ...api.Cell) api.Row           { return api.Row{Cells: cells} }
func cell(id int, l ...api.Item) api.Cell     { return api.Cell{Id: id, Flow: l} }
func flow(l ...api.Item) []api.Item           { return l }
func doc(l ...api.Item) api.Document          { return api.Document{Flow: l} }
func prop(key, value int) api.Prop            { return api.Prop{Key: key, Value: value} }
func marked(i api.Item, m api.Marks) api.Item { i.Head.Marks = m; return i }

// show returns a string that is equal for equal values, where nil and empty slices are equal.
func show(v any) string { return fmt.Sprintf("%+v", v) }

// part is an element as the tests see it.
type part struct {
	kind, id   int // the id of a note, a table or a cell, or 0
	head       api.Head
	flow, unit int // the place of the item
	units      int
	hasFlow    bool
	inner      []api.Item
	item       api.Item
}

// parts returns the elements of a flow in document order.
func parts(l []api.Item, id int) []part {
	var all []part
	unit := 0
	for _, item := range l {
		p := part{kind: item.Kind, head: item.Head, flow: id, unit: unit, units: 1, item: item}
		switch item.Kind {
		case api.Text:
			p.units = utf8.RuneCountInString(item.Text)
		case api.Note:
			p.id, p.hasFlow, p.inner = item.Id, true, item.Flow
		case api.Table:
			p.id = item.Id
		}
		all = append(all, p)
		if p.hasFlow {
			all = append(all, parts(item.Flow, item.Id)...)
		}
		if item.Kind == api.Table {
			for _, r := range item.Rows {
				all = append(all, part{kind: 9, head: r.Head, flow: id, unit: unit})
				for _, c := range r.Cells {
					all = append(all, part{kind: 10, id: c.Id, head: c.Head, flow: id, unit: unit, hasFlow: true, inner: c.Flow})
					all = append(all, parts(c.Flow, c.Id)...)
				}
			}
		}
		unit += p.units
	}
	return all
}

// naiveUsed returns the revisions that occur in a document.
func naiveUsed(d api.Document) []int {
	var revs []int
	all := append(parts(d.Flow, 0), part{head: api.Head{Marks: api.Marks{Layers: d.End.Marks.Layers}}})
	for _, p := range all {
		if p.head.Marks.Ins != 0 {
			revs = append(revs, p.head.Marks.Ins)
		}
		for _, del := range p.head.Marks.Dels {
			revs = append(revs, del.Rev)
		}
		for _, layer := range p.head.Marks.Layers {
			revs = append(revs, layer.Rev)
		}
	}
	slices.Sort(revs)
	return slices.Compact(revs)
}

// naiveNormal returns the normal form, with memory of d.
func naiveNormal(d api.Document) api.Document {
	d.Flow = run.Normal(d.Flow)
	used := naiveUsed(d)
	var revs []api.Rev
	for _, r := range d.Revs {
		if slices.Contains(used, r.Id) {
			revs = append(revs, r)
		}
	}
	d.Revs = revs
	return d
}

// rewrite returns a flow in which each flow and each table, from inside out, is what a function makes of it.
func rewrite(l []api.Item, id int, flow func(id int, l []api.Item) []api.Item, table func(api.Item) api.Item) []api.Item {
	var all []api.Item
	for _, item := range l {
		if item.Kind == api.Note {
			item.Flow = rewrite(item.Flow, item.Id, flow, table)
		}
		if item.Kind == api.Table {
			var rows []api.Row
			for _, r := range item.Rows {
				var cells []api.Cell
				for _, c := range r.Cells {
					c.Flow = rewrite(c.Flow, c.Id, flow, table)
					cells = append(cells, c)
				}
				rows = append(rows, api.Row{Head: r.Head, Cells: cells})
			}
			item.Rows = rows
			item = table(item)
		}
		all = append(all, item)
	}
	return flow(id, all)
}

func sameFlow(_ int, l []api.Item) []api.Item { return l }
func sameTable(item api.Item) api.Item        { return item }

// withFlow returns a document, not normalized, in which a flow has other items.
func withFlow(d api.Document, id int, l []api.Item) api.Document {
	d.Flow = rewrite(d.Flow, 0, func(own int, old []api.Item) []api.Item {
		if own == id {
			return l
		}
		return old
	}, sameTable)
	return d
}

// withTable returns a document, not normalized, in which a table has other rows.
func withTable(d api.Document, id int, rows []api.Row) api.Document {
	d.Flow = rewrite(d.Flow, 0, sameFlow, func(item api.Item) api.Item {
		if item.Id == id {
			item.Rows = rows
		}
		return item
	})
	return d
}

// many calls a function for many documents.
func many(count int, seed uint64, f func(r *rand.Rand, d api.Document)) {
	r := rand.New(rand.NewPCG(13, seed))
	for range count {
		f(r, samples.Document(r.IntN))
	}
}

// full shows a document together with what stands behind the ends of some of its slices.
func full(d api.Document) string {
	return show(d.Flow[:cap(d.Flow)]) + show(d.End) + show(d.Revs[:cap(d.Revs)]) + show(d.Settings)
}

// wants checks that a result is a normal form, valid if its source is, and shares no memory.
func wants(t *testing.T, what string, got, want api.Document, others ...any) {
	t.Helper()
	if normal := naiveNormal(want); show(got) != show(normal) {
		t.Fatalf("%s = %+v; want %+v", what, got, normal)
	}
	if !samples.Apart(append(others, got)...) {
		t.Fatalf("%s = %+v shares memory", what, got)
	}
}

// everywhere are the numbers that no element has as its id, and some that one can have.
func everywhere(d api.Document) []int {
	return append(append(samples.Numbers(), -3, 10007, 1<<20), document.Ids(d)...)
}
