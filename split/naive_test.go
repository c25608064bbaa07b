package split_test

import (
	"fmt"
	"math/rand/v2"
	"slices"
	"sort"

	"obelus/api"
	"obelus/document"
	"obelus/revision"
	"obelus/run"
	"obelus/samples"
)

var (
	text, para, section, note, table = samples.Text, samples.Para, samples.Section, samples.Note, samples.Table
	row, cell, flow                  = samples.Row, samples.Cell, samples.Flow
)

func span(flow, from, to int) api.Range { return api.Range{Flow: flow, From: from, To: to} }

// doc returns the normal form of a document with those of the revisions 3, 5 and 7 that it uses.
func doc(l ...api.Item) api.Document {
	return document.Normal(api.Document{Flow: l, Revs: []api.Rev{rev(3), rev(5), rev(7)}})
}
func rev(id int) api.Rev { return api.Rev{Id: id, Author: "Ann", Time: 9} }

// ins, del and layered return items with marks; of the layers for a key, each leads from one number to the next one.
func ins(item api.Item, rev, move int) api.Item {
	item.Head.Marks.Ins, item.Head.Marks.Move = rev, move
	return item
}
func del(item api.Item, l ...api.Del) api.Item { item.Head.Marks.Dels = l; return item }
func by(rev, move int) api.Del                 { return api.Del{Rev: rev, Move: move} }
func layers(key int, revs ...int) []api.Layer {
	var l []api.Layer
	for i, rev := range revs {
		l = append(l, api.Layer{Rev: rev, Key: key, Before: i, Had: true})
	}
	return l
}
func layered(item api.Item, l ...api.Layer) api.Item { item.Head.Marks.Layers = l; return item }

// show returns a string that is equal for equal values, where nil and empty slices are equal.
func show(v any) string { return fmt.Sprintf("%+v", v) }

func isEmpty(d api.Document) bool { return show(d) == show(api.Document{}) }

// around says whether an element, of which the flow and the unit or the table is known, lies in a range.
type around struct {
	r             api.Range
	flows, tables []int // that are in the range
}

func naiveAround(d api.Document, r api.Range) around {
	l, _ := document.Flow(d, r.Flow)
	part := api.Document{Flow: samples.Units(l)[r.From:r.To]}
	return around{r, document.Flows(part)[1:], document.Tables(part)}
}
func (a around) unit(id, at int) bool {
	return slices.Contains(a.flows, id) || id == a.r.Flow && a.r.From <= at && at < a.r.To
}
func (a around) row(id int) bool { return slices.Contains(a.tables, id) }

// changed returns the normal form of a document in which the heads of all units, rows and cells are changed by a function, which is also told whether they lie in a range; an element for which it returns false is removed.
func changed(d api.Document, a around, change func(h api.Head, inside bool) (api.Head, bool)) api.Document {
	d.Flow = samples.Rewrite(0, d.Flow, func(id int, units []api.Item) []api.Item {
		var left []api.Item
		for at, u := range units {
			h, remains := change(run.CloneHead(u.Head), a.unit(id, at))
			u.Head = h
			if remains && (u.Kind != api.Table || len(u.Rows) > 0) {
				left = append(left, u)
			}
		}
		return left
	}, func(id int, l []api.Row) []api.Row {
		var left []api.Row
		for _, r := range l {
			var cells []api.Cell
			for _, c := range r.Cells {
				h, remains := change(run.CloneHead(c.Head), a.row(id))
				if c.Head = h; remains {
					cells = append(cells, c)
				}
			}
			h, remains := change(run.CloneHead(r.Head), a.row(id))
			if remains && len(cells) > 0 {
				left = append(left, api.Row{Head: h, Cells: cells})
			}
		}
		return left
	})
	d.End, _ = change(run.CloneHead(d.End), false)
	return document.Normal(d)
}

// looked calls a function for the heads of all units, rows and cells, and for End.
func looked(d api.Document, a around, look func(h api.Head, inside bool)) {
	changed(d, a, func(h api.Head, inside bool) (api.Head, bool) {
		look(h, inside)
		return h, true
	})
}

// touchesBy reports whether a head has a mark by a revision.
func touchesBy(h api.Head, rev int) bool {
	m := h.Marks
	return m.Ins == rev || slices.ContainsFunc(m.Dels, func(d api.Del) bool { return d.Rev == rev }) || slices.ContainsFunc(m.Layers, func(l api.Layer) bool { return l.Rev == rev })
}

func hasRev(d api.Document, id int) bool {
	return slices.ContainsFunc(d.Revs, func(r api.Rev) bool { return r.Id == id })
}

func naiveCount(d api.Document, rev int, r api.Range) (inside, outside int, e api.Errno) {
	l, found := document.Flow(d, r.Flow)
	switch {
	case !found:
		return 0, 0, api.ErrNotFound
	case r.From < 0 || r.To < r.From || len(samples.Units(l)) < r.To:
		return 0, 0, api.ErrRange
	case !hasRev(d, rev):
		return 0, 0, api.ErrRevision
	}
	looked(d, naiveAround(d, r), func(h api.Head, in bool) {
		switch {
		case touchesBy(h, rev) && in:
			inside++
		case touchesBy(h, rev):
			outside++
		}
	})
	return inside, outside, api.OK
}

// naiveNew returns the document in which a revision is added to the table, and others are taken out.
func naiveNew(d api.Document, old []int, with api.Rev) api.Document {
	d.Revs = append(revision.Remove(d.Revs, old), with)
	sort.Slice(d.Revs, func(i, j int) bool { return d.Revs[i].Id < d.Revs[j].Id })
	return document.Normal(d)
}

// renamed returns a head in which marks have other revisions.
func renamed(h api.Head, name func(rev int) int) api.Head {
	h.Marks.Ins = name(h.Marks.Ins)
	for i := range h.Marks.Dels {
		h.Marks.Dels[i].Rev = name(h.Marks.Dels[i].Rev)
	}
	sort.Slice(h.Marks.Dels, func(i, j int) bool { return h.Marks.Dels[i].Rev < h.Marks.Dels[j].Rev })
	for i := range h.Marks.Layers {
		h.Marks.Layers[i].Rev = name(h.Marks.Layers[i].Rev)
	}
	return h
}
func instead(from, to int) func(rev int) int {
	return func(rev int) int {
		if rev == from {
			return to
		}
		return rev
	}
}

// movesOn returns the moves of a revision of which a head is.
func movesOn(h api.Head, rev int) (numbers []int) {
	if h.Marks.Ins == rev && h.Marks.Move != 0 {
		numbers = append(numbers, h.Marks.Move)
	}
	for _, del := range h.Marks.Dels {
		if del.Rev == rev && del.Move != 0 {
			numbers = append(numbers, del.Move)
		}
	}
	return numbers
}

func naiveSplit(d api.Document, rev int, r api.Range, next api.Rev) (api.Document, api.Errno) {
	inside, outside, e := naiveCount(d, rev, r)
	if e == api.OK {
		e = revision.CheckRev(next)
	}
	switch {
	case e != api.OK:
		return api.Document{}, e
	case hasRev(d, next.Id):
		return api.Document{}, api.ErrDuplicate
	case len(d.Revs) >= api.MaxRevs:
		return api.Document{}, api.ErrLimit
	case inside == 0 || outside == 0:
		return api.Document{}, api.ErrEmpty
	}
	sides := [2][]int{}
	a := naiveAround(d, r)
	looked(d, a, func(h api.Head, in bool) {
		if in {
			sides[0] = append(sides[0], movesOn(h, rev)...)
		} else {
			sides[1] = append(sides[1], movesOn(h, rev)...)
		}
	})
	if slices.ContainsFunc(sides[0], func(move int) bool { return slices.Contains(sides[1], move) }) {
		return api.Document{}, api.ErrMove
	}
	d.Revs = append(slices.Clone(d.Revs), next)
	return naiveNew(changed(d, a, func(h api.Head, in bool) (api.Head, bool) {
		if in {
			h = renamed(h, instead(rev, next.Id))
		}
		return h, true
	}), []int{next.Id}, next), api.OK
}

// ours returns the deletions of a head by some revisions, and whether its insertion is by one of them.
func ours(h api.Head, revs []int) (dels []api.Del, inserts bool) {
	for _, del := range h.Marks.Dels {
		if slices.Contains(revs, del.Rev) {
			dels = append(dels, del)
		}
	}
	return dels, slices.Contains(revs, h.Marks.Ins)
}

func naiveCombineError(d api.Document, revs []int, into api.Rev) api.Errno {
	if len(revs) == 0 {
		return api.ErrEmpty
	}
	for i, rev := range revs {
		switch {
		case !hasRev(d, rev):
			return api.ErrRevision
		case i > 0 && revs[i-1] == rev:
			return api.ErrDuplicate
		case i > 0 && revs[i-1] > rev:
			return api.ErrOrder
		}
	}
	if e := revision.CheckRev(into); e != api.OK {
		return e
	}
	if hasRev(d, into.Id) && !slices.Contains(revs, into.Id) {
		return api.ErrDuplicate
	}
	e := api.OK
	looked(d, around{}, func(h api.Head, _ bool) {
		dels, inserts := ours(h, revs)
		moves := slices.ContainsFunc(dels, func(d api.Del) bool { return d.Move != 0 })
		if len(dels) > 1 && moves || inserts && len(dels) > 0 && (h.Marks.Move != 0 || moves) {
			e = api.ErrMove
		}
	})
	return e
}

// naiveNumbers returns the moves of revisions by their new numbers: the first one has the number 1.
func naiveNumbers(d api.Document, revs []int) (all [][2]int) {
	for _, rev := range revs {
		var numbers []int
		looked(d, around{}, func(h api.Head, _ bool) { numbers = append(numbers, movesOn(h, rev)...) })
		slices.Sort(numbers)
		for _, number := range slices.Compact(numbers) {
			all = append(all, [2]int{rev, number})
		}
	}
	return all
}

func naiveCombine(d api.Document, revs []int, into api.Rev) (api.Document, api.Errno) {
	if e := naiveCombineError(d, revs, into); e != api.OK {
		return api.Document{}, e
	}
	numbers := naiveNumbers(d, revs)
	number := func(rev, move int) int {
		if !slices.Contains(revs, rev) {
			return move
		}
		return slices.Index(numbers, [2]int{rev, move}) + 1
	}
	is := func(rev int) bool { return slices.Contains(revs, rev) }
	d.Revs = append(slices.Clone(d.Revs), into)
	return naiveNew(changed(d, around{}, func(h api.Head, _ bool) (api.Head, bool) {
		dels, inserts := ours(h, revs)
		if inserts && len(dels) > 0 {
			return api.Head{}, false
		}
		m := &h.Marks
		m.Move = number(m.Ins, m.Move)
		for len(dels) > 1 { // the last one goes
			last := dels[len(dels)-1]
			dels = dels[:len(dels)-1]
			m.Dels = slices.DeleteFunc(m.Dels, func(d api.Del) bool { return d == last })
		}
		for i, del := range m.Dels {
			m.Dels[i].Move = number(del.Rev, del.Move)
		}
		for i := len(m.Layers) - 1; i > 0; i-- {
			if below := m.Layers[i-1]; below.Key == m.Layers[i].Key && is(below.Rev) && is(m.Layers[i].Rev) {
				m.Layers = slices.Delete(m.Layers, i, i+1)
			}
		}
		return renamed(h, func(rev int) int {
			if is(rev) {
				return into.Id
			}
			return rev
		}), true
	}), append(revs, into.Id), into), api.OK
}

func naiveReassign(d api.Document, rev int, to api.Rev) (api.Document, api.Errno) {
	switch e := revision.CheckRev(to); {
	case !hasRev(d, rev):
		return api.Document{}, api.ErrRevision
	case e != api.OK:
		return api.Document{}, e
	case rev != to.Id && hasRev(d, to.Id):
		return api.Document{}, api.ErrDuplicate
	}
	d.Revs = append(slices.Clone(d.Revs), to)
	return naiveNew(changed(d, around{}, func(h api.Head, _ bool) (api.Head, bool) { return renamed(h, instead(rev, to.Id)), true }), []int{rev, to.Id}, to), api.OK
}

// mixed gives random numbers of moves to some marks of a document, and none to the others.
func mixed(r *rand.Rand, d api.Document) api.Document {
	seldom := func() int { return []int{0, 0, 0, 0, 1, 2, 6, api.MaxId}[r.IntN(8)] }
	return changed(d, around{}, func(h api.Head, _ bool) (api.Head, bool) {
		if h.Marks.Ins != 0 {
			h.Marks.Move = seldom()
		}
		for i := range h.Marks.Dels {
			h.Marks.Dels[i].Move = seldom()
		}
		return h, true
	})
}

// many calls a function for many valid documents.
func many(count int, seed uint64, f func(r *rand.Rand, d api.Document)) {
	r := rand.New(rand.NewPCG(28, seed))
	for i := range count {
		d := samples.Document(r.IntN)
		switch i % 3 {
		case 0:
			d = samples.Edited(r.IntN, samples.Plain(r.IntN), 6)
		case 1:
			d = mixed(r, d)
		}
		f(r, d)
	}
}

// one returns one of some values, or another one if there are none.
func one[T any](r *rand.Rand, l []T, other T) T {
	if len(l) == 0 {
		return other
	}
	return l[r.IntN(len(l))]
}

// someRange returns a range of a document, seldom a wrong one.
func someRange(r *rand.Rand, d api.Document) api.Range {
	id := document.Flows(d)[r.IntN(len(document.Flows(d)))]
	l, _ := document.Flow(d, id)
	units := len(samples.Units(l))
	s := span(id, r.IntN(units+1), r.IntN(units+1))
	if s.From > s.To && r.IntN(20) > 0 {
		s.From, s.To = s.To, s.From
	}
	switch r.IntN(60) {
	case 0:
		s.Flow = 12345
	case 1:
		s.From--
	case 2:
		s.To++
	}
	return s
}

// someRev returns a revision that is seldom wrong, and has the id of one of the document or another one.
func someRev(r *rand.Rand, d api.Document) api.Rev {
	v := api.Rev{Id: 1 + r.IntN(12), Author: "Eve", Time: 7}
	switch r.IntN(40) {
	case 0:
		v.Id = 0
	case 1:
		v.Author = ""
	case 2:
		v.Time = -1
	}
	return v
}

// someRevs returns some revisions of a document in increasing order, seldom in another one.
func someRevs(r *rand.Rand, d api.Document) (revs []int) {
	for _, v := range d.Revs {
		if r.IntN(5) < 2 {
			revs = append(revs, v.Id)
		}
	}
	switch r.IntN(30) {
	case 0:
		revs = append(revs, 3)
	case 1:
		slices.Reverse(revs)
	case 2:
		revs = append(revs, revs...)
	}
	return revs
}
