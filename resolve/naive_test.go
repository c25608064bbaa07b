package resolve_test

import (
	"fmt"
	"math/rand/v2"
	"slices"

	"obelus/api"
	"obelus/document"
	"obelus/mark"
	"obelus/samples"
)

var (
	text, para, section, note = samples.Text, samples.Para, samples.Section, samples.Note
	table, row, cell          = samples.Table, samples.Row, samples.Cell
	flow                      = samples.Flow
)

func prop(key, value int) api.Prop { return api.Prop{Key: key, Value: value} }

// doc returns a document with the revisions 3, 5 and 7.
func doc(l ...api.Item) api.Document {
	return api.Document{Flow: l, Revs: []api.Rev{{Id: 3, Author: "a"}, {Id: 5, Author: "b"}, {Id: 7, Author: "a"}}}
}

// inserted and deleted return the marks of an insertion and of a deletion, and revised those of a layer.
func inserted(rev int) api.Marks { return api.Marks{Ins: rev} }
func deleted(rev int) api.Marks  { return api.Marks{Dels: []api.Del{{Rev: rev}}} }
func revised(rev, key, before int) api.Marks {
	return api.Marks{Layers: []api.Layer{{Rev: rev, Key: key, Before: before, Had: true}}}
}

// item, rows and cells return elements with marks.
func item(i api.Item, m api.Marks) api.Item      { i.Head.Marks = m; return i }
func aRow(m api.Marks, l ...api.Cell) api.Row    { return api.Row{Head: api.Head{Marks: m}, Cells: l} }
func aCell(c api.Cell, m api.Marks) api.Cell     { c.Head.Marks = m; return c }
func decision(accept, reject []int) api.Decision { return api.Decision{Accept: accept, Reject: reject} }

// show returns a string that is equal for equal values, where nil and empty slices are equal.
func show(v any) string { return fmt.Sprintf("%+v", v) }

// naiveResolve judges the heads of a valid document unit by unit.
func naiveResolve(d api.Document, c api.Decision) api.Document {
	d.Flow = samples.Rewrite(0, d.Flow, func(_ int, units []api.Item) []api.Item {
		var left []api.Item
		for _, u := range units {
			h, remains := mark.Decide(u.Head, c)
			u.Head = h
			if remains && (u.Kind != api.Table || len(u.Rows) > 0) {
				left = append(left, u)
			}
		}
		return left
	}, func(_ int, l []api.Row) []api.Row {
		var left []api.Row
		for _, r := range l {
			var cells []api.Cell
			for _, c0 := range r.Cells {
				h, remains := mark.Decide(c0.Head, c)
				c0.Head = h
				if remains {
					cells = append(cells, c0)
				}
			}
			h, remains := mark.Decide(r.Head, c)
			if remains && len(cells) > 0 {
				left = append(left, api.Row{Head: h, Cells: cells})
			}
		}
		return left
	})
	d.End, _ = mark.Decide(d.End, c)
	return document.Normal(d)
}

// revsOf returns the ids of the revisions of a document.
func revsOf(d api.Document) (ids []int) {
	for _, r := range d.Revs {
		ids = append(ids, r.Id)
	}
	return ids
}

func naiveOriginal(d api.Document) api.Document { return naiveResolve(d, decision(nil, revsOf(d))) }
func naiveFinal(d api.Document) api.Document    { return naiveResolve(d, decision(revsOf(d), nil)) }

// alone reports whether anything is left of an item that is the only one of a document if all revisions are accepted.
func alone(d api.Document, i api.Item) bool {
	d.Flow, d.End = flow(i), api.Head{}
	return len(naiveFinal(d).Flow) > 0
}

// naiveVisible looks at each unit alone, naiveRows at each row, and naiveCells at each cell.
func naiveVisible(d api.Document, l []api.Item) (all []bool) {
	for _, u := range samples.Units(l) {
		all = append(all, alone(d, u))
	}
	return all
}
func naiveRows(d api.Document, l []api.Row) (all []bool) {
	for _, r := range l {
		all = append(all, alone(d, table(1, r)))
	}
	return all
}
func naiveCells(d api.Document, r api.Row) (all []bool) {
	for _, c := range r.Cells {
		all = append(all, alone(d, table(1, row(c))))
	}
	return all
}

// strike deletes some rows and cells of a document by its revisions, and makes others new.
func strike(r *rand.Rand, d api.Document) api.Document {
	spoil := func(m *api.Marks) {
		rev := d.Revs[r.IntN(len(d.Revs))].Id
		switch r.IntN(4) {
		case 0:
			m.Dels = []api.Del{{Rev: rev}}
		case 1:
			m.Ins = rev
		}
	}
	if len(d.Revs) == 0 {
		return d
	}
	d.Flow = samples.Rewrite(0, d.Flow, nil, func(_ int, l []api.Row) []api.Row {
		for i := range l {
			spoil(&l[i].Head.Marks)
			for j := range l[i].Cells {
				spoil(&l[i].Cells[j].Head.Marks)
			}
		}
		return l
	})
	return d
}

// many calls a function for many valid documents.
func many(count int, seed uint64, f func(r *rand.Rand, d api.Document)) {
	r := rand.New(rand.NewPCG(24, seed))
	for range count {
		d := samples.Document(r.IntN)
		if r.IntN(2) == 0 {
			d = strike(r, d)
		}
		if r.IntN(2) == 0 {
			d = document.Normal(d)
		}
		f(r, d)
	}
}

// someRevs returns revisions of documents, and one that they do not have, or some of them.
func someRevs(r *rand.Rand) []int {
	return slices.DeleteFunc([]int{1, 2, 4, 6, 9}, func(int) bool { return r.IntN(3) == 0 })
}
