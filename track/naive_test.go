package track_test

import (
	"fmt"
	"math/rand/v2"
	"slices"

	"obelus/api"
	"obelus/document"
	"obelus/edit"
	"obelus/mark"
	"obelus/property"
	"obelus/resolve"
	"obelus/revision"
	"obelus/samples"
)

var (
	text, para, section, note, table = samples.Text, samples.Para, samples.Section, samples.Note, samples.Table
	row, cell, flow                  = samples.Row, samples.Cell, samples.Flow
)

func prop(key, value int) api.Prop      { return api.Prop{Key: key, Value: value} }
func comment(id int) api.Item           { return samples.Anchor(api.CommentStart, id) }
func pos(flow, at int) api.Pos          { return api.Pos{Flow: flow, At: at} }
func span(flow, from, to int) api.Range { return api.Range{Flow: flow, From: from, To: to} }

// ann, bob and cyd are revisions of the documents that doc returns; dan is another one.
func ann() api.Rev { return api.Rev{Id: 1, Author: "Ann", Time: 5} }
func bob() api.Rev { return api.Rev{Id: 2, Author: "Bob"} }
func cyd() api.Rev { return api.Rev{Id: 5, Author: "Cyd", Time: 1} }
func dan() api.Rev { return api.Rev{Id: 3, Author: "Dan"} }

// doc returns the normal form of a document with revisions.
func doc(l ...api.Item) api.Document {
	return document.Normal(api.Document{Flow: l, Revs: []api.Rev{ann(), bob(), dan(), cyd()}})
}

// ins returns an item that a revision has inserted, or moved to its place, and del one that revisions have deleted.
func ins(item api.Item, rev, move int) api.Item {
	item.Head.Marks.Ins, item.Head.Marks.Move = rev, move
	return item
}
func del(item api.Item, l ...api.Del) api.Item { item.Head.Marks.Dels = l; return item }
func by(rev int) api.Del                       { return api.Del{Rev: rev} }

// layered returns an item with a property that a revision has changed.
func layered(item api.Item, rev int, p api.Prop, before int) api.Item {
	item.Head.Props = []api.Prop{p}
	item.Head.Marks.Layers = append(slices.Clone(item.Head.Marks.Layers), api.Layer{Rev: rev, Key: p.Key, Before: before, Had: true})
	return item
}

// show returns a string that is equal for equal values, where nil and empty slices are equal.
func show(v any) string { return fmt.Sprintf("%+v", v) }

func isEmpty(d api.Document) bool { return show(d) == show(api.Document{}) }

// join returns lists one after another.
func join[T any](lists ...[]T) []T { return slices.Concat(lists...) }

// flowOf returns the units of a flow, and which of them are visible.
func flowOf(d api.Document, id int) (units []api.Item, visible []bool) {
	l, _ := document.Flow(d, id)
	visible, _ = resolve.Visible(d, id)
	return samples.Units(l), visible
}

// naivePlace returns the located place of an offset among visible elements.
func naivePlace(visible []bool, at int) int {
	place := 0
	for place < len(visible) && at > 0 {
		if visible[place] {
			at--
		}
		place++
	}
	return place
}

// naiveNth returns the place of the visible element with a number.
func naiveNth(visible []bool, n int) int { return naivePlace(visible, n+1) - 1 }

func naiveCount(visible []bool) int {
	return len(slices.DeleteFunc(slices.Clone(visible), func(is bool) bool { return !is }))
}

// eachHead calls a function for the heads of all elements of a flow.
func eachHead(l []api.Item, f func(h api.Head)) {
	for _, item := range l {
		f(item.Head)
		eachHead(item.Flow, f)
		for _, r := range item.Rows {
			f(r.Head)
			for _, c := range r.Cells {
				f(c.Head)
				eachHead(c.Flow, f)
			}
		}
	}
}

func naiveNext(d api.Document, rev int) int {
	numbers := []int{0}
	eachHead(d.Flow, func(h api.Head) {
		if h.Marks.Ins == rev {
			numbers = append(numbers, h.Marks.Move)
		}
		for _, one := range h.Marks.Dels {
			if one.Rev == rev {
				numbers = append(numbers, one.Move)
			}
		}
	})
	return slices.Max(numbers) + 1
}

// naiveCopies returns the copies of units in the final view, with new ids.
func naiveCopies(units []api.Item, fresh, rev, move int) []api.Item {
	var copies []api.Item
	for _, u := range units {
		number := move
		if u.Head.Marks.Ins == rev {
			number = 0
		}
		u.Head = mark.Plain(u.Head)
		final := resolve.Final(api.Document{Flow: flow(u)}).Flow[0]
		final.Head.Marks = api.Marks{Ins: rev, Move: number}
		copies = append(copies, final)
	}
	next := fresh
	return renumber(copies, &next)
}

// renumber gives new ids to the notes, tables and cells in items.
func renumber(l []api.Item, next *int) []api.Item {
	fresh := func() int { *next++; return *next - 1 }
	for i := range l {
		switch l[i].Kind {
		case api.Note:
			l[i].Id = fresh()
			l[i].Flow = renumber(l[i].Flow, next)
		case api.Table:
			l[i].Id = fresh()
			for _, r := range l[i].Rows {
				for j := range r.Cells {
					r.Cells[j].Id = fresh()
					r.Cells[j].Flow = renumber(r.Cells[j].Flow, next)
				}
			}
		}
	}
	return l
}

// naive tracks an edit unit by unit, in the words of the chapter; the edit has no error in the final view.
type naive struct {
	e     api.Edit
	rev   int
	limit bool // a head could not be changed
}

// head returns what becomes of the head of a chosen element.
func (n *naive) head(h api.Head, move int) (api.Head, bool) {
	remains := true
	var err api.Errno
	switch n.e.Kind {
	case api.EditDelete, api.EditMove, api.EditDeleteRows, api.EditDeleteCells:
		h, remains, err = mark.Delete(h, n.rev, move)
	default:
		h, err = mark.Set(h, n.rev, prop(n.e.Key, n.e.Value), n.e.Clear)
	}
	n.limit = n.limit || err != api.OK
	return h, remains
}

// rewritten returns units of which those that are chosen are changed.
func (n *naive) rewritten(units []api.Item, chosen func(i int) bool, move int) (left []api.Item) {
	for i, u := range units {
		remains := true
		if chosen(i) {
			u.Head, remains = n.head(u.Head, move)
		}
		if remains {
			left = append(left, u)
		}
	}
	return left
}

func (n *naive) move(d api.Document) api.Document {
	e := n.e
	number := naiveNext(d, n.rev)
	units, visible := flowOf(d, e.Flow)
	chosen := func(i int) bool {
		k := naiveCount(visible[:i])
		return visible[i] && e.At <= k && k < e.At+e.Count && units[i].Kind != api.Anchor
	}
	var sources []api.Item
	for i, u := range units {
		if chosen(i) {
			sources = append(sources, u)
		}
	}
	copies := naiveCopies(sources, e.Fresh, n.rev, number)
	_, seen := flowOf(d, e.To)
	place := naivePlace(seen, e.ToAt)
	if e.To != e.Flow {
		d = samples.WithFlow(d, e.Flow, func(l []api.Item) []api.Item { return n.rewritten(l, chosen, number) })
		return samples.WithFlow(d, e.To, func(l []api.Item) []api.Item { return join(l[:place], copies, l[place:]) })
	}
	return samples.WithFlow(d, e.Flow, func(l []api.Item) []api.Item {
		before := n.rewritten(l[:place], chosen, number)
		behind := n.rewritten(l[place:], func(i int) bool { return chosen(place + i) }, number)
		return join(before, copies, behind)
	})
}

// units returns the document in which an edit of a flow is tracked.
func (n *naive) units(d api.Document) api.Document {
	e := n.e
	units, visible := flowOf(d, e.Flow)
	place := naivePlace(visible, e.At)
	inRange := func(i int) bool {
		k := naiveCount(visible[:i])
		return visible[i] && e.At <= k && k < e.At+e.Count
	}
	return samples.WithFlow(d, e.Flow, func(l []api.Item) []api.Item {
		switch e.Kind {
		case api.EditInsert:
			var new []api.Item
			for _, u := range e.Items {
				new = append(new, ins(u, n.rev, 0))
			}
			return join(l[:place], new, l[place:])
		case api.EditPutAnchor:
			return join(l[:place], e.Items, l[place:])
		case api.EditDropAnchor:
			at := naiveNth(visible, e.At)
			return join(l[:at], l[at+1:])
		case api.EditDelete:
			return n.rewritten(l, func(i int) bool { return inRange(i) && units[i].Kind != api.Anchor }, 0)
		}
		return n.rewritten(l, func(i int) bool { return inRange(i) && property.Fits(units[i].Kind, e.Key) }, 0)
	})
}

// rows returns the document in which an edit of a table is tracked.
func (n *naive) rows(d api.Document) api.Document {
	e := n.e
	visible, _ := resolve.Rows(d, e.Flow)
	at := naivePlace(visible, e.At)
	if e.Kind == api.EditInsertRows {
		var new []api.Row
		for _, r := range e.Rows {
			r.Head.Marks.Ins = n.rev
			new = append(new, r)
		}
		return samples.WithTable(d, e.Flow, func(l []api.Row) []api.Row { return join(l[:at], new, l[at:]) })
	}
	return samples.WithTable(d, e.Flow, func(l []api.Row) (left []api.Row) {
		for i, r := range l {
			remains, k := true, naiveCount(visible[:i])
			switch {
			case !visible[i]:
			case e.Kind == api.EditDeleteRows && e.At <= k && k < e.At+e.Count, e.Kind == api.EditFormatRow && k == e.At:
				r.Head, remains = n.head(r.Head, 0)
			case e.Kind != api.EditDeleteRows && e.Kind != api.EditFormatRow && k == e.At:
				r.Cells = n.cells(d, r.Cells, i)
			}
			if remains {
				left = append(left, r)
			}
		}
		return left
	})
}

func (n *naive) cells(d api.Document, l []api.Cell, at int) (left []api.Cell) {
	e := n.e
	visible, _ := resolve.Cells(d, e.Flow, at)
	if e.Kind == api.EditInsertCells {
		for _, c := range e.Cells {
			c.Head.Marks.Ins = n.rev
			left = append(left, c)
		}
		place := naivePlace(visible, e.Sub)
		return join(l[:place], left, l[place:])
	}
	for i, c := range l {
		remains, k := true, naiveCount(visible[:i])
		if visible[i] && (e.Kind == api.EditFormatCell && k == e.Sub || e.Kind == api.EditDeleteCells && e.Sub <= k && k < e.Sub+e.Count) {
			c.Head, remains = n.head(c.Head, 0)
		}
		if remains {
			left = append(left, c)
		}
	}
	return left
}

// naiveIds returns the ids that an edit introduces.
func naiveIds(d api.Document, e api.Edit) []int {
	if e.Kind != api.EditMove {
		return edit.Ids(e)
	}
	units, _ := flowOf(resolve.Final(d), e.Flow)
	moved := units[e.At : e.At+e.Count]
	var ids []int
	for i := range edit.Ids(api.Edit{Items: moved}) {
		ids = append(ids, e.Fresh+i)
	}
	return ids
}

// naiveTrack tracks an edit in a valid document in normal form, and finds errors in their order.
func naiveTrack(d api.Document, e api.Edit, r api.Rev) (api.Document, api.Errno) {
	if err := revision.CheckRev(r); err != api.OK {
		return api.Document{}, err
	}
	for _, own := range d.Revs {
		if own.Id == r.Id && (own.Author != r.Author || own.Time != r.Time) {
			return api.Document{}, api.ErrRevision
		}
	}
	if err := edit.Check(resolve.Final(d), e); err != api.OK {
		return api.Document{}, err
	}
	for _, id := range naiveIds(d, e) {
		if slices.Contains(document.Ids(d), id) {
			return api.Document{}, api.ErrId
		}
	}
	n := &naive{e: e, rev: r.Id}
	switch e.Kind {
	case api.EditSettings:
		d.Settings = e.Settings
		if err := document.Check(d); err != api.OK {
			return api.Document{}, err
		}
	case api.EditFormatEnd:
		d.End, _ = n.head(d.End, 0)
	case api.EditMove:
		d = n.move(d)
	case api.EditInsert, api.EditDelete, api.EditFormat, api.EditPutAnchor, api.EditDropAnchor:
		d = n.units(d)
	default:
		d = n.rows(d)
	}
	d.Revs = slices.Clone(d.Revs)
	if _, found := revision.Find(d.Revs, r.Id); !found {
		d.Revs = append(d.Revs, r)
		slices.SortFunc(d.Revs, func(a, b api.Rev) int { return a.Id - b.Id })
	}
	d = document.Normal(d)
	if n.limit || document.Check(d) == api.ErrLimit {
		return api.Document{}, api.ErrLimit
	}
	return d, api.OK
}

// someRev returns a revision that documents of samples can have, or one that none of them has, or seldom one with another author or time.
func someRev(r *rand.Rand) api.Rev {
	all := samples.Revs()
	rev := all[r.IntN(len(all))]
	switch r.IntN(30) {
	case 0:
		rev.Author += "a"
	case 1:
		rev.Time /= 2
	}
	return rev
}

// many calls a function for many documents, edits of their final views, and revisions.
func many(count int, seed uint64, f func(r *rand.Rand, d api.Document, e api.Edit, rev api.Rev)) {
	r := rand.New(rand.NewPCG(25, seed))
	for range count {
		d := document.Normal(samples.Document(r.IntN))
		e := samples.Edit(r.IntN, resolve.Final(d))
		hidden := slices.DeleteFunc(document.Ids(d), func(id int) bool { return slices.Contains(resolve.Shown(d), id) })
		if e.Kind == api.EditMove && len(hidden) > 0 && r.IntN(6) == 0 {
			e.Fresh = hidden[r.IntN(len(hidden))] - r.IntN(2)
		}
		f(r, d, e, someRev(r))
	}
}
