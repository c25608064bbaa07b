package compare_test

import (
	"fmt"
	"math/rand/v2"
	"slices"
	"testing"

	"obelus/alignment"
	"obelus/api"
	"obelus/blockmatch"
	"obelus/compare"
	"obelus/document"
	"obelus/mark"
	"obelus/paragraph"
	"obelus/property"
	"obelus/run"
	"obelus/samples"
	"obelus/segment"
)

var (
	text, para, section, note, table = samples.Text, samples.Para, samples.Section, samples.Note, samples.Table
	row, cell, flow, doc             = samples.Row, samples.Cell, samples.Flow, samples.Doc
)

// ann is the revision of most comparisons.
func ann() api.Rev { return api.Rev{Id: 5, Author: "Ann", Time: 7} }

// show returns a string that is equal for equal values, where nil and empty slices are equal.
func show(v any) string { return fmt.Sprintf("%+v", v) }

// bold returns the property that makes something bold.
func bold() api.Prop { return api.Prop{Key: api.KeyBold, Value: 1} }

// ins, del and layered return items with marks by ann.
func ins(item api.Item) api.Item { item.Head.Marks.Ins = 5; return item }
func del(item api.Item) api.Item { item.Head.Marks.Dels = []api.Del{{Rev: 5}}; return item }
func layered(item api.Item, l ...api.Layer) api.Item {
	item.Head.Marks.Layers = l
	return item
}
func insRow(r api.Row) api.Row    { r.Head.Marks.Ins = 5; return r }
func delRow(r api.Row) api.Row    { r.Head.Marks.Dels = []api.Del{{Rev: 5}}; return r }
func insCell(c api.Cell) api.Cell { c.Head.Marks.Ins = 5; return c }
func delCell(c api.Cell) api.Cell { c.Head.Marks.Dels = []api.Del{{Rev: 5}}; return c }

// naive compares in the words of the chapter. What is inserted gets the id 0 at first.
type naive struct {
	rev     int
	limited bool
}

// inOrder goes through two lists of which some elements match.
func inOrder(countA, countB int, pairs []alignment.Pair, remove, insert func(i int), match func(i, j int)) {
	for i, j := 0, 0; i < countA || j < countB; {
		switch {
		case i < countA && !slices.ContainsFunc(pairs, func(p alignment.Pair) bool { return p.A == i }):
			remove(i)
			i++
		case j < countB && !slices.ContainsFunc(pairs, func(p alignment.Pair) bool { return p.B == j }):
			insert(j)
			j++
		default:
			match(i, j)
			i++
			j++
		}
	}
}

func pairs(l []blockmatch.Match) (all []alignment.Pair) {
	for _, m := range l {
		all = append(all, alignment.Pair{A: m.A, B: m.B})
	}
	return all
}

func (n *naive) head(a, b api.Head) api.Head {
	for key := range 100 {
		x, hasX := property.Get(a.Props, key)
		if y, hasY := property.Get(b.Props, key); x != y || hasX != hasY {
			a, _ = mark.Set(a, n.rev, api.Prop{Key: key, Value: y}, !hasY)
		}
	}
	return a
}

func (n *naive) remove(h api.Head) api.Head {
	h.Marks.Dels = []api.Del{{Rev: n.rev}}
	return h
}

func (n *naive) insert(h api.Head) api.Head {
	h.Marks.Ins = n.rev
	return h
}

// newItem and newCell return copies in which all ids of flows and tables are 0.
func newItem(item api.Item) api.Item {
	item = run.Clone(flow(item))[0]
	if item.Kind == api.Note || item.Kind == api.Table {
		item.Id = 0
	}
	for i := range item.Flow {
		item.Flow[i] = newItem(item.Flow[i])
	}
	for _, r := range item.Rows {
		for i := range r.Cells {
			r.Cells[i] = newCell(r.Cells[i])
		}
	}
	return item
}
func newCell(c api.Cell) api.Cell {
	c = run.CloneCell(c)
	c.Id = 0
	for i := range c.Flow {
		c.Flow[i] = newItem(c.Flow[i])
	}
	return c
}

func (n *naive) flow(a, b []api.Item) (l []api.Item) {
	x, _ := paragraph.Blocks(a)
	y, _ := paragraph.Blocks(b)
	matches, e := blockmatch.Blocks(a, b)
	if e != api.OK {
		n.limited = true
		return nil
	}
	part := func(l []api.Item, b paragraph.Block) []api.Item { return samples.Units(l)[b.From:b.To] }
	inOrder(len(x), len(y), pairs(matches), func(i int) {
		l = append(l, n.removed(part(a, x[i]))...)
	}, func(j int) {
		l = append(l, n.inserted(part(b, y[j]))...)
	}, func(i, j int) {
		if x[i].Kind == paragraph.Table {
			l = append(l, n.table(part(a, x[i])[0], part(b, y[j])[0]))
		} else {
			l = append(l, n.block(part(a, x[i]), part(b, y[j]))...)
		}
	})
	return l
}

func (n *naive) removed(units []api.Item) (l []api.Item) {
	for _, u := range units {
		u.Head = n.remove(u.Head)
		l = append(l, u)
	}
	return l
}

func (n *naive) inserted(units []api.Item) (l []api.Item) {
	for _, u := range units {
		u = newItem(u)
		u.Head = n.insert(u.Head)
		l = append(l, u)
	}
	return l
}

func (n *naive) table(a, b api.Item) api.Item {
	matches, _ := blockmatch.Rows(a.Rows, b.Rows)
	var rows []api.Row
	inOrder(len(a.Rows), len(b.Rows), pairs(matches), func(i int) {
		r := a.Rows[i]
		r.Head = n.remove(r.Head)
		rows = append(rows, r)
	}, func(j int) {
		r := newItem(table(1, b.Rows[j])).Rows[0]
		r.Head = n.insert(r.Head)
		rows = append(rows, r)
	}, func(i, j int) {
		rows = append(rows, n.row(a.Rows[i], b.Rows[j]))
	})
	return api.Item{Kind: api.Table, Id: a.Id, Head: n.head(a.Head, b.Head), Rows: rows}
}

func (n *naive) row(a, b api.Row) api.Row {
	matches, _ := blockmatch.Cells(a.Cells, b.Cells)
	r := api.Row{Head: n.head(a.Head, b.Head)}
	inOrder(len(a.Cells), len(b.Cells), pairs(matches), func(i int) {
		c := a.Cells[i]
		c.Head = n.remove(c.Head)
		r.Cells = append(r.Cells, c)
	}, func(j int) {
		c := newCell(b.Cells[j])
		c.Head = n.insert(c.Head)
		r.Cells = append(r.Cells, c)
	}, func(i, j int) {
		x, y := a.Cells[i], b.Cells[j]
		r.Cells = append(r.Cells, api.Cell{Id: x.Id, Head: n.head(x.Head, y.Head), Flow: n.flow(x.Flow, y.Flow)})
	})
	return r
}

// sameUnit reports whether two units are equal in tokens.
func sameUnit(a, b api.Item) bool {
	switch {
	case a.Kind != b.Kind || a.Kind != api.Text && a.Code != b.Code:
		return false
	case a.Kind == api.Text || a.Kind == api.Field:
		return a.Text == b.Text
	case a.Kind == api.Anchor:
		return a.Text == b.Text && a.Id == b.Id
	}
	return true
}

func (n *naive) block(a, b []api.Item) (l []api.Item) {
	x, _ := segment.Tokens(run.Text(a))
	y, _ := segment.Tokens(run.Text(b))
	if len(x) > 2048 || len(y) > 2048 {
		n.limited = true
		return nil
	}
	var known [][]api.Item
	tokens := func(units []api.Item, list []segment.Token) (all []alignment.Token) {
		for _, t := range list {
			own := units[t.From:t.To]
			key := slices.IndexFunc(known, func(other []api.Item) bool { return slices.EqualFunc(own, other, sameUnit) })
			if key < 0 {
				key = len(known)
				known = append(known, own)
			}
			weight := min(len(own), 1000)
			if t.Kind == segment.Space {
				weight = 1
			}
			all = append(all, alignment.Token{Key: key, Weight: weight})
		}
		return all
	}
	aligned, _ := alignment.Align(tokens(a, x), tokens(b, y), 1)
	inOrder(len(x), len(y), aligned, func(i int) {
		l = append(l, n.removed(a[x[i].From:x[i].To])...)
	}, func(j int) {
		l = append(l, n.inserted(b[y[j].From:y[j].To])...)
	}, func(i, j int) {
		for k := range x[i].To - x[i].From {
			u, v := a[x[i].From+k], b[y[j].From+k]
			u.Head = n.head(u.Head, v.Head)
			if u.Kind == api.Note {
				u.Flow = n.flow(u.Flow, v.Flow)
			}
			l = append(l, u)
		}
	})
	return l
}

// fill gives the next ids to those elements that have the id 0.
func fill(l []api.Item, next *int) {
	give := func(id *int) {
		if *id == 0 {
			*id = *next
			*next++
		}
	}
	for i := range l {
		if l[i].Kind == api.Note || l[i].Kind == api.Table {
			give(&l[i].Id)
		}
		fill(l[i].Flow, next)
		for _, r := range l[i].Rows {
			for k := range r.Cells {
				give(&r.Cells[k].Id)
				fill(r.Cells[k].Flow, next)
			}
		}
	}
}

// naiveCompare compares valid documents.
func naiveCompare(a, b api.Document, r api.Rev) (api.Document, api.Errno) {
	n := naive{rev: r.Id}
	a = document.Clone(a)
	d := api.Document{Flow: n.flow(a.Flow, b.Flow), End: n.head(a.End, b.End), Revs: []api.Rev{r}, Settings: a.Settings}
	if n.limited {
		return api.Document{}, api.ErrLimit
	}
	d = document.Normal(d)
	next := document.Fresh(a)
	fill(d.Flow, &next)
	if next > api.MaxId+1 {
		return api.Document{}, api.ErrId
	}
	if e := document.Check(d); e != api.OK {
		return api.Document{}, e
	}
	return d, api.OK
}

// naiveSummary counts what has marks.
func naiveSummary(l []api.Item) (s compare.Summary) {
	count := func(h api.Head, inserted, deleted, formatted *int) {
		if h.Marks.Ins > 0 {
			*inserted++
		}
		if len(h.Marks.Dels) > 0 {
			*deleted++
		}
		if len(h.Marks.Layers) > 0 {
			*formatted++
		}
	}
	inside := func(l []api.Item) {
		other := naiveSummary(l)
		s.Inserted, s.Deleted, s.Formatted = s.Inserted+other.Inserted, s.Deleted+other.Deleted, s.Formatted+other.Formatted
		s.TablesInserted, s.TablesDeleted, s.TablesFormatted = s.TablesInserted+other.TablesInserted, s.TablesDeleted+other.TablesDeleted, s.TablesFormatted+other.TablesFormatted
	}
	for _, u := range samples.Units(l) {
		count(u.Head, &s.Inserted, &s.Deleted, &s.Formatted)
		if u.Head.Marks.Ins > 0 || len(u.Head.Marks.Dels) > 0 {
			continue
		}
		inside(u.Flow)
		for _, r := range u.Rows {
			count(r.Head, &s.TablesInserted, &s.TablesDeleted, &s.TablesFormatted)
			if r.Head.Marks.Ins > 0 || len(r.Head.Marks.Dels) > 0 {
				continue
			}
			for _, c := range r.Cells {
				count(c.Head, &s.TablesInserted, &s.TablesDeleted, &s.TablesFormatted)
				if c.Head.Marks.Ins == 0 && len(c.Head.Marks.Dels) == 0 {
					inside(c.Flow)
				}
			}
		}
	}
	return s
}

// manyPairs calls a function for many pairs of documents that can be compared.
func manyPairs(t *testing.T, count int, seed uint64, f func(a, b api.Document)) {
	t.Helper()
	r := rand.New(rand.NewPCG(32, seed))
	for i := range count {
		a, b := samples.Versions(r.IntN)
		switch i % 8 {
		case 0:
			b = samples.Plain(r.IntN)
			b.Settings = document.Clone(a).Settings
			if document.Check(b) != api.OK {
				b = document.Clone(api.Document{Settings: a.Settings})
			}
		case 1:
			a, b = b, a
		case 2:
			a, b = document.Normal(a), document.Normal(b)
		}
		f(a, b)
	}
}
