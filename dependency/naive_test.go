package dependency_test

import (
	"fmt"
	"math/rand/v2"
	"slices"

	"obelus/api"
	"obelus/dependency"
	"obelus/document"
	"obelus/resolve"
	"obelus/samples"
)

var (
	text, para, section, note, table = samples.Text, samples.Para, samples.Section, samples.Note, samples.Table
	row, cell, flow                  = samples.Row, samples.Cell, samples.Flow
)

// doc returns a document with the revisions 1, 2, 3, 5 and 8.
func doc(l ...api.Item) api.Document {
	d := api.Document{Flow: l}
	for _, id := range []int{1, 2, 3, 5, 8} {
		d.Revs = append(d.Revs, api.Rev{Id: id, Author: "Ann", Time: 10 - id})
	}
	return d
}

// ins, del and bold return items with marks, and of, in and by heads of rows and cells with marks.
func ins(item api.Item, rev int) api.Item { item.Head.Marks.Ins = rev; return item }
func del(item api.Item, revs ...int) api.Item {
	item.Head.Marks.Dels = nil
	for _, rev := range revs {
		item.Head.Marks.Dels = append(item.Head.Marks.Dels, api.Del{Rev: rev})
	}
	return item
}
func bold(item api.Item, revs ...int) api.Item {
	item.Head.Marks.Layers = nil
	for i, rev := range revs {
		item.Head.Marks.Layers = append(item.Head.Marks.Layers, api.Layer{Rev: rev, Key: api.KeyBold, Before: i % 2, Had: i > 0})
	}
	return item
}
func insRow(r api.Row, rev int) api.Row    { r.Head.Marks.Ins = rev; return r }
func insCell(c api.Cell, rev int) api.Cell { c.Head.Marks.Ins = rev; return c }
func tallRow(r api.Row, rev int) api.Row {
	r.Head.Marks.Layers = []api.Layer{{Rev: rev, Key: api.KeyRowHeight}}
	return r
}
func shadedCell(c api.Cell, rev int) api.Cell {
	c.Head.Marks.Layers = []api.Layer{{Rev: rev, Key: api.KeyShade}}
	return c
}
func withEnd(d api.Document, revs ...int) api.Document {
	for _, rev := range revs {
		d.End.Marks.Layers = append(d.End.Marks.Layers, api.Layer{Rev: rev, Key: api.KeyTop})
	}
	return d
}

func decision(accept, reject []int) api.Decision { return api.Decision{Accept: accept, Reject: reject} }

// show returns a string that is equal for equal values, where nil and empty slices are equal.
func show(v any) string { return fmt.Sprintf("%+v", v) }

// element is an element of a document, a text being one element for each unit, with the way to it.
type element struct {
	head api.Head
	way  []int
}

// elementsOf returns the elements of a flow to which a way leads.
func elementsOf(l []api.Item, way []int) (all []element) {
	at := func(way []int, i int) []int { return append(slices.Clone(way), i) }
	for i, u := range samples.Units(l) {
		here := at(way, i)
		all = append(append(all, element{u.Head, here}), elementsOf(u.Flow, here)...)
		for j, r := range u.Rows {
			inRow := at(here, j)
			all = append(all, element{r.Head, inRow})
			for k, c := range r.Cells {
				inCell := at(inRow, k)
				all = append(append(all, element{c.Head, inCell}), elementsOf(c.Flow, inCell)...)
			}
		}
	}
	return all
}
func allOf(d api.Document) []element {
	return append(elementsOf(d.Flow, nil), element{d.End, []int{-1}})
}

// isAround reports whether an element is another one, or contains it.
func isAround(e, other element) bool {
	return len(e.way) <= len(other.way) && slices.Equal(e.way, other.way[:len(e.way)])
}

// marksOn returns the number of marks of a revision in a head.
func marksOn(h api.Head, rev int) int {
	count := 0
	if rev != 0 && h.Marks.Ins == rev {
		count++
	}
	for _, del := range h.Marks.Dels {
		if del.Rev == rev {
			count++
		}
	}
	for _, layer := range h.Marks.Layers {
		if layer.Rev == rev {
			count++
		}
	}
	return count
}

func naiveMarks(d api.Document, rev int) int {
	count := 0
	for _, e := range allOf(d) {
		count += marksOn(e.head, rev)
	}
	return count
}

// revsOf returns the ids of the revisions of a document.
func revsOf(d api.Document) (ids []int) {
	for _, r := range d.Revs {
		ids = append(ids, r.Id)
	}
	return ids
}

// selected returns the revisions of a document that fulfil a condition.
func selected(d api.Document, is func(rev int) bool) (all []int) {
	for _, rev := range revsOf(d) {
		if is(rev) {
			all = append(all, rev)
		}
	}
	return all
}

// loses reports whether a revision has fewer marks behind a decision.
func loses(d api.Document, rev int, c api.Decision) bool {
	left, _ := resolve.Resolve(d, c)
	return naiveMarks(left, rev) < naiveMarks(d, rev)
}

func naiveNeeds(d api.Document, rev int) []int {
	return selected(d, func(r int) bool { return r != rev && loses(d, rev, decision(nil, []int{r})) })
}
func naiveCovers(d api.Document, rev int) []int {
	return selected(d, func(r int) bool { return r != rev && loses(d, r, decision([]int{rev}, nil)) })
}

func naiveTouch(d api.Document, a, b int) bool {
	all := allOf(d)
	for _, x := range all {
		for _, y := range all {
			if marksOn(x.head, a) > 0 && marksOn(y.head, b) > 0 && (isAround(x, y) || isAround(y, x)) {
				return true
			}
		}
	}
	return false
}

// grow adds revisions to a set until a step adds nothing.
func grow(d api.Document, set []int, step func(rev int) []int) []int {
	set = selected(d, func(rev int) bool { return slices.Contains(set, rev) })
	for {
		larger := slices.Clone(set)
		for _, rev := range set {
			larger = append(larger, step(rev)...)
		}
		slices.Sort(larger)
		if larger = slices.Compact(larger); len(larger) == len(set) {
			return set
		}
		set = larger
	}
}

func naiveClusters(d api.Document) (all [][]int) {
	marked := selected(d, func(rev int) bool { return naiveMarks(d, rev) > 0 })
	for len(marked) > 0 {
		cluster := grow(d, marked[:1], func(rev int) []int {
			return selected(d, func(other int) bool { return naiveTouch(d, rev, other) })
		})
		all = append(all, cluster)
		marked = slices.DeleteFunc(slices.Clone(marked), func(rev int) bool { return slices.Contains(cluster, rev) })
	}
	return all
}

func naiveAccepting(d api.Document, revs []int) []int {
	return grow(d, revs, func(rev int) []int { return naiveNeeds(d, rev) })
}
func naiveRejecting(d api.Document, revs []int) []int {
	return grow(d, revs, func(rev int) []int {
		return selected(d, func(other int) bool { return slices.Contains(naiveNeeds(d, other), rev) })
	})
}

func naiveOf(d api.Document, c api.Decision) dependency.Effect {
	left, _ := resolve.Resolve(d, c)
	e := dependency.Effect{Gone: document.Units(d) - document.Units(left), Units: document.Units(left)}
	for _, rev := range revsOf(d) {
		e.Marks += naiveMarks(left, rev)
	}
	return e
}

// thinned returns a document without most of its marks.
func thinned(r *rand.Rand, d api.Document) api.Document {
	thin := func(h *api.Head) {
		if r.IntN(3) > 0 {
			h.Marks = api.Marks{}
		}
	}
	d.Flow = samples.Rewrite(0, d.Flow, func(_ int, units []api.Item) []api.Item {
		for i := range units {
			thin(&units[i].Head)
		}
		return units
	}, func(_ int, l []api.Row) []api.Row {
		for i := range l {
			thin(&l[i].Head)
			for j := range l[i].Cells {
				thin(&l[i].Cells[j].Head)
			}
		}
		return l
	})
	return document.Clone(d)
}

// many calls a function for many valid documents.
func many(count int, seed uint64, f func(r *rand.Rand, d api.Document)) {
	r := rand.New(rand.NewPCG(27, seed))
	for i := range count {
		d := samples.Document(r.IntN)
		switch i % 3 {
		case 0:
			d = samples.Edited(r.IntN, samples.Plain(r.IntN), 12)
		case 1:
			d = thinned(r, d)
		}
		f(r, d)
	}
}
