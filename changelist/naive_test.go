package changelist_test

import (
	"fmt"
	"math/rand/v2"
	"slices"
	"sort"

	"obelus/api"
	"obelus/changelist"
	"obelus/document"
	"obelus/run"
	"obelus/samples"
)

var (
	text, para, section, note, table = samples.Text, samples.Para, samples.Section, samples.Note, samples.Table
	row, cell, flow                  = samples.Row, samples.Cell, samples.Flow
)

// revs returns the revisions of the documents that doc returns.
func revs() []api.Rev {
	return []api.Rev{{Id: 1, Author: "Bob"}, {Id: 2, Author: "Ann"}, {Id: 3, Author: "Bob", Time: 7}, {Id: 5, Author: "\u00c9va"}, {Id: 8, Author: "Bo"}}
}

// doc returns the normal form of a document, which has those revisions that it uses.
func doc(l ...api.Item) api.Document {
	return document.Normal(api.Document{Flow: l, Revs: revs()})
}

// withEnd returns a document with layers of revisions for the last section.
func withEnd(d api.Document, layers ...api.Layer) api.Document {
	d.Revs = revs()
	d.End.Marks.Layers = layers
	return document.Normal(d)
}

// ins, del and layered return items with marks.
func ins(item api.Item, rev, move int) api.Item {
	item.Head.Marks.Ins, item.Head.Marks.Move = rev, move
	return item
}
func del(item api.Item, l ...api.Del) api.Item       { item.Head.Marks.Dels = l; return item }
func by(rev, move int) api.Del                       { return api.Del{Rev: rev, Move: move} }
func layered(item api.Item, l ...api.Layer) api.Item { item.Head.Marks.Layers = l; return item }
func layer(rev, key int) api.Layer                   { return api.Layer{Rev: rev, Key: key} }
func markedRow(m api.Marks, cells ...api.Cell) api.Row {
	return api.Row{Head: api.Head{Marks: m}, Cells: cells}
}
func markedCell(m api.Marks, id int, l ...api.Item) api.Cell {
	return api.Cell{Id: id, Head: api.Head{Marks: m}, Flow: l}
}

// show returns a string that is equal for equal values, where nil and empty slices are equal.
func show(v any) string { return fmt.Sprintf("%+v", v) }

// marksOf returns an entry without a place for each mark of a head; layers by the same revision for the same key have one.
func marksOf(h api.Head) []changelist.Entry {
	var all []changelist.Entry
	if h.Marks.Ins != 0 {
		all = append(all, changelist.Entry{Kind: changelist.Insertion, Rev: h.Marks.Ins, Move: h.Marks.Move})
	}
	for _, d := range h.Marks.Dels {
		all = append(all, changelist.Entry{Kind: changelist.Deletion, Rev: d.Rev, Move: d.Move})
	}
	for _, l := range h.Marks.Layers {
		e := changelist.Entry{Kind: changelist.Format, Rev: l.Rev, Key: l.Key}
		if !slices.Contains(all, e) {
			all = append(all, e)
		}
	}
	return all
}

func has(h api.Head, e changelist.Entry) bool { return slices.Contains(marksOf(h), e) }

// at returns an entry at a place.
func at(e changelist.Entry, scope, flow, from, to, row, cell int) changelist.Entry {
	e.Scope, e.Range, e.Row, e.Cell = scope, api.Range{Flow: flow, From: from, To: to}, row, cell
	return e
}

// naiveUnits returns the entries that begin with a unit, or are in the table that is this unit.
func naiveUnits(id int, units []api.Item, from int) []changelist.Entry {
	var all []changelist.Entry
	for _, e := range marksOf(units[from].Head) {
		if from > 0 && has(units[from-1].Head, e) {
			continue
		}
		to := from
		for to < len(units) && has(units[to].Head, e) {
			to++
		}
		all = append(all, at(e, changelist.Items, id, from, to, -1, -1))
	}
	for i, r := range units[from].Rows {
		for _, e := range marksOf(r.Head) {
			all = append(all, at(e, changelist.Row, id, from, from+1, i, -1))
		}
		for k, c := range r.Cells {
			for _, e := range marksOf(c.Head) {
				all = append(all, at(e, changelist.Cell, id, from, from+1, i, k))
			}
		}
	}
	return all
}

// unitsOf returns the units of a flow.
func unitsOf(d api.Document, id int) []api.Item {
	l, _ := document.Flow(d, id)
	return samples.Units(l)
}

// sorted sorts entries by their numbers behind that of the flow.
func sorted(l []changelist.Entry) []changelist.Entry {
	numbers := func(e changelist.Entry) []int {
		return []int{e.Range.From, e.Row, e.Cell, e.Kind, e.Rev, e.Move, e.Key}
	}
	sort.Slice(l, func(i, j int) bool { return slices.Compare(numbers(l[i]), numbers(l[j])) < 0 })
	return l
}

func naiveList(d api.Document) []changelist.Entry {
	var all, end []changelist.Entry
	for _, id := range document.Flows(d) {
		var own []changelist.Entry
		units := unitsOf(d, id)
		for from := range units {
			own = append(own, naiveUnits(id, units, from)...)
		}
		all = append(all, sorted(own)...)
	}
	length := len(samples.Units(d.Flow))
	for _, e := range marksOf(d.End) {
		end = append(end, at(e, changelist.End, 0, length, length, -1, -1))
	}
	return append(all, sorted(end)...)
}

// naiveCompare compares where an entry begins with a position.
func naiveCompare(d api.Document, e changelist.Entry, p api.Pos) int {
	flows := document.Flows(d)
	return slices.Compare([]int{slices.Index(flows, e.Range.Flow), e.Range.From}, []int{slices.Index(flows, p.Flow), p.At})
}

// naiveNear returns the first entry that begins behind a position, or the last one that begins before it.
func naiveNear(d api.Document, p api.Pos, isNext bool) (near changelist.Entry, found bool) {
	if !slices.Contains(document.Flows(d), p.Flow) {
		return changelist.Entry{}, false
	}
	for _, e := range naiveList(d) {
		order := naiveCompare(d, e, p)
		switch {
		case e.Scope == changelist.End:
		case isNext && order > 0:
			return e, true
		case !isNext && order < 0:
			near, found = e, true
		}
	}
	return near, found
}

// headsIn returns the heads of some units and of everything in them.
func headsIn(units []api.Item) []api.Head {
	var all []api.Head
	for _, u := range units {
		all = append(append(all, u.Head), headsIn(samples.Units(u.Flow))...)
		for _, r := range u.Rows {
			all = append(all, r.Head)
			for _, c := range r.Cells {
				all = append(append(all, c.Head), headsIn(samples.Units(c.Flow))...)
			}
		}
	}
	return all
}

// revsIn returns the revisions in the marks of heads in increasing order.
func revsIn(heads []api.Head) []int {
	var all []int
	for _, h := range heads {
		for _, e := range marksOf(h) {
			all = append(all, e.Rev)
		}
	}
	slices.Sort(all)
	return slices.Compact(all)
}

func naiveTouched(d api.Document, r api.Range) ([]int, api.Errno) {
	if !slices.Contains(document.Flows(d), r.Flow) {
		return nil, api.ErrNotFound
	}
	units := unitsOf(d, r.Flow)
	if r.From < 0 || r.To < r.From || r.To > len(units) {
		return nil, api.ErrRange
	}
	return revsIn(headsIn(units[r.From:r.To])), api.OK
}

// naiveExcerpt is Excerpt for an entry of a document and a number that is not negative.
func naiveExcerpt(d api.Document, e changelist.Entry, most int) string {
	units := unitsOf(d, e.Range.Flow)[e.Range.From:e.Range.To]
	whole := run.Text(units)
	if e.Scope != changelist.Items {
		whole = ""
		for k, c := range units[0].Rows[e.Row].Cells {
			switch {
			case e.Scope == changelist.Cell && k == e.Cell:
				whole = run.Text(c.Flow)
			case e.Scope == changelist.Row && k > 0:
				whole += "\t" + run.Text(c.Flow)
			case e.Scope == changelist.Row:
				whole = run.Text(c.Flow)
			}
		}
	}
	if points := []rune(whole); len(points) > most {
		return string(points[:most]) + "\u2026"
	}
	return whole
}

// authorOf returns the author of a revision.
func authorOf(d api.Document, rev int) string {
	i := slices.IndexFunc(d.Revs, func(r api.Rev) bool { return r.Id == rev })
	return d.Revs[i].Author
}

// naiveStats counts marks, and only formats by their entries.
func naiveStats(d api.Document) []changelist.Stat {
	stats := make(map[string]changelist.Stat)
	count := func(rev int, f func(s *changelist.Stat)) {
		s := stats[authorOf(d, rev)]
		f(&s)
		stats[authorOf(d, rev)] = s
	}
	var units []api.Item
	for _, id := range document.Flows(d) {
		units = append(units, unitsOf(d, id)...)
	}
	heads := append(headsIn(samples.Units(d.Flow)), d.End)
	moves := make(map[changelist.Entry]bool)
	for _, rev := range revsIn(heads) {
		count(rev, func(s *changelist.Stat) { s.Revs++ })
	}
	for _, h := range heads {
		for _, e := range marksOf(h) {
			if e.Move != 0 {
				moves[changelist.Entry{Rev: e.Rev, Move: e.Move}] = true
			}
			if e.Kind != changelist.Format {
				count(e.Rev, func(s *changelist.Stat) { s.Tables++ })
			}
		}
	}
	for _, u := range units {
		for _, e := range marksOf(u.Head) {
			count(e.Rev, func(s *changelist.Stat) {
				switch e.Kind {
				case changelist.Insertion:
					s.Inserted++
					s.Tables--
				case changelist.Deletion:
					s.Deleted++
					s.Tables--
				}
			})
		}
	}
	for _, e := range naiveList(d) {
		if e.Kind == changelist.Format {
			count(e.Rev, func(s *changelist.Stat) { s.Formatted++ })
		}
	}
	for m := range moves {
		count(m.Rev, func(s *changelist.Stat) { s.Moves++ })
	}
	var all []changelist.Stat
	for author, s := range stats {
		s.Author = author
		all = append(all, s)
	}
	sort.Slice(all, func(i, j int) bool { return all[i].Author < all[j].Author })
	return all
}

// many calls a function for many valid documents in normal form.
func many(count int, seed uint64, f func(r *rand.Rand, d api.Document)) {
	r := rand.New(rand.NewPCG(29, seed))
	for i := range count {
		d := samples.Document(r.IntN)
		switch i % 3 {
		case 0:
			d = samples.Edited(r.IntN, samples.Plain(r.IntN), 10)
		case 1:
			d = samples.Edited(r.IntN, d, 4)
		}
		f(r, document.Normal(d))
	}
}

// someRange returns a range of a document, seldom a wrong one.
func someRange(r *rand.Rand, d api.Document) api.Range {
	flows := append(document.Flows(d), -1, 3)
	id := flows[r.IntN(len(flows))]
	length := len(unitsOf(d, id))
	from := r.IntN(length+3) - 1
	return api.Range{Flow: id, From: from, To: from + r.IntN(length+2) - r.IntN(2)}
}
