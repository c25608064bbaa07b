package movefind_test

import (
	"fmt"
	"math/rand/v2"
	"slices"

	"obelus/api"
	"obelus/compare"
	"obelus/document"
	"obelus/movefind"
	"obelus/property"
	"obelus/samples"
	"obelus/track"
)

var (
	text, para, note, table = samples.Text, samples.Para, samples.Note, samples.Table
	row, cell, flow         = samples.Row, samples.Cell, samples.Flow
)

type found = movefind.Found

// revs returns the revisions of the documents that doc returns.
func revs() []api.Rev {
	return []api.Rev{{Id: 1, Author: "Ann"}, {Id: 2, Author: "Bob"}, {Id: 3, Author: "Cyd"}}
}

// doc returns the normal form of a document, which has those revisions that it uses.
func doc(l ...api.Item) api.Document {
	return document.Normal(api.Document{Flow: l, Revs: revs()})
}

// ins and del return items with marks of revisions, and cut and put such that the first revision has deleted or inserted.
func ins(item api.Item, rev, move int) api.Item {
	item.Head.Marks.Ins, item.Head.Marks.Move = rev, move
	return item
}
func del(item api.Item, l ...api.Del) api.Item { item.Head.Marks.Dels = l; return item }
func cut(item api.Item) api.Item               { return del(item, api.Del{Rev: 1}) }
func put(item api.Item) api.Item               { return ins(item, 1, 0) }
func bold(item api.Item) api.Item {
	item.Head.Props = []api.Prop{{Key: api.KeyBold, Value: 1}}
	return item
}
func layered(item api.Item, rev int) api.Item {
	item.Head.Marks.Layers = []api.Layer{{Rev: rev, Key: api.KeySize}}
	return item
}

// show returns a string that is equal for equal values, where nil and empty slices are equal.
func show(v any) string { return fmt.Sprintf("%+v", v) }

// span returns a range.
func span(flow, from, to int) api.Range { return api.Range{Flow: flow, From: from, To: to} }

// plainInside reports whether nothing in an item has marks.
func plainInside(item api.Item) bool {
	is := true
	check := func(h api.Head) {
		m := h.Marks
		is = is && m.Ins == 0 && len(m.Dels)+len(m.Layers) == 0
	}
	item.Head = api.Head{}
	samples.Rewrite(0, flow(item), func(_ int, units []api.Item) []api.Item {
		for _, u := range units {
			check(u.Head)
		}
		return units
	}, func(_ int, rows []api.Row) []api.Row {
		for _, r := range rows {
			check(r.Head)
			for _, c := range r.Cells {
				check(c.Head)
			}
		}
		return rows
	})
	return is
}

// naiveUnit is a unit of a side: where it stands, and its content.
type naiveUnit struct {
	p       api.Pos
	content string
}

// naiveSide returns the source units or the target units in document order.
func naiveSide(d api.Document, rev int, isSource bool) (all []naiveUnit) {
	for _, id := range document.Flows(d) {
		l, _ := document.Flow(d, id)
		for at, u := range samples.Units(l) {
			m := u.Head.Marks
			is := m.Ins == rev && m.Move == 0 && len(m.Dels) == 0
			if isSource {
				is = m.Ins == 0 && show(m.Dels) == show([]api.Del{{Rev: rev}})
			}
			if is && len(m.Layers) == 0 && u.Kind != api.Anchor && plainInside(u) {
				all = append(all, naiveUnit{api.Pos{Flow: id, At: at}, naiveContent(u)})
			}
		}
	}
	return all
}

// naiveRanges joins units that follow one another.
func naiveRanges(l []naiveUnit) (all []api.Range) {
	has := func(p api.Pos) bool {
		return slices.ContainsFunc(l, func(u naiveUnit) bool { return u.p == p })
	}
	for _, u := range l {
		if has(api.Pos{Flow: u.p.Flow, At: u.p.At - 1}) {
			continue
		}
		end := u.p
		for has(end) {
			end.At++
		}
		all = append(all, span(u.p.Flow, u.p.At, end.At))
	}
	return all
}

// renumbered returns items with the ids 1, 2, .. in document order.
func renumbered(l []api.Item) []api.Item { return document.Renumber(api.Document{Flow: l}).Flow }

// naiveContent returns a string that is equal for units with the same content.
func naiveContent(item api.Item) string {
	item = renumbered(flow(item))[0]
	return show(item.Kind) + " " + show(item.Code) + " " + show(item.Text) + " " + show(item.Head.Props) + show(item.Flow) + show(item.Rows)
}

// naiveBest looks at all common ranges.
func naiveBest(sources, targets []naiveUnit) (best found, length int) {
	behind := func(l []naiveUnit, i, n int) bool { // whether the unit i + n is n units behind the unit i
		p := l[i].p
		p.At += n
		return i+n < len(l) && l[i+n].p == p
	}
	for i := range sources {
		for j := range targets {
			n := 0
			for behind(sources, i, n) && behind(targets, j, n) && sources[i+n].content == targets[j+n].content {
				n++
			}
			if n > length {
				p, q := sources[i].p, targets[j].p
				best, length = found{span(p.Flow, p.At, p.At+n), span(q.Flow, q.At, q.At+n)}, n
			}
		}
	}
	return best, length
}

// naiveFind finds one range after another.
func naiveFind(d api.Document, rev, least int) (all []found) {
	sources, targets := naiveSide(d, rev, true), naiveSide(d, rev, false)
	for {
		best, length := naiveBest(sources, targets)
		if length < least || length == 0 {
			return all
		}
		all = append(all, best)
		sources, targets = without(sources, best.From), without(targets, best.To)
	}
}

func without(l []naiveUnit, r api.Range) []naiveUnit {
	return slices.DeleteFunc(slices.Clone(l), func(u naiveUnit) bool { return u.p.Flow == r.Flow && r.From <= u.p.At && u.p.At < r.To })
}

// naiveMark sets the marks of one side of a moved range after another.
func naiveMark(d api.Document, rev int, l []found) api.Document {
	next := track.Move(d, rev)
	for i, f := range l {
		d = samples.WithFlow(d, f.From.Flow, func(units []api.Item) []api.Item {
			for at := f.From.From; at < f.From.To; at++ {
				units[at].Head.Marks.Dels = []api.Del{{Rev: rev, Move: next + i}}
			}
			return units
		})
		d = samples.WithFlow(d, f.To.Flow, func(units []api.Item) []api.Item {
			for at := f.To.From; at < f.To.To; at++ {
				units[at].Head.Marks.Move = next + i
			}
			return units
		})
	}
	return document.Normal(d)
}

// maker makes documents with many units that the first revision has deleted or inserted.
type maker struct {
	*rand.Rand
	ids    int
	last   api.Marks
	inNote bool
}

func (m *maker) id() int {
	m.ids++
	return m.ids * 4001 % 10007
}

// marks returns marks, most often those of the unit before.
func (m *maker) marks() api.Marks {
	if m.IntN(5) == 0 {
		all := []api.Marks{
			{}, {}, {}, {},
			ins(text(""), 1, 4).Head.Marks, del(text(""), api.Del{Rev: 1, Move: 3}).Head.Marks, ins(text(""), 2, 0).Head.Marks, del(text(""), api.Del{Rev: 2}).Head.Marks, del(text(""), api.Del{Rev: 1}, api.Del{Rev: 2}).Head.Marks,
			del(put(text("")), api.Del{Rev: 2}).Head.Marks, layered(cut(text("")), 2).Head.Marks, layered(put(text("")), 1).Head.Marks, cut(ins(text(""), 2, 0)).Head.Marks,
		}
		m.last = []api.Marks{cut(text("")).Head.Marks, put(text("")).Head.Marks, all[m.IntN(len(all))]}[m.IntN(3)]
	}
	return m.last
}

func (m *maker) item(depth int) api.Item {
	item := text([]string{"a", "b", "a", "b", "\u00e9"}[m.IntN(5)])
	switch m.IntN(16) {
	case 0:
		item = bold(item)
	case 1:
		item = []api.Item{para(), samples.Break(api.Tab), samples.Break(api.LineBreak), samples.Field("a"), samples.Field("b")}[m.IntN(5)]
	case 2:
		item = []api.Item{samples.Anchor(api.CommentEnd, 1), samples.Start(1, "a")}[m.IntN(2)]
	case 3:
		if depth > 0 && !m.inNote {
			m.inNote = true
			item = note(m.id(), m.inner(depth)...)
			m.inNote = false
			item.Code += m.IntN(5) / 4
		}
	case 4:
		if depth > 0 {
			item = table(m.id())
			for range 1 + m.IntN(5)/4 {
				r := row()
				for range 1 + m.IntN(3)/2 {
					r.Cells = append(r.Cells, cell(m.id(), m.inner(depth)...))
				}
				item.Rows = append(item.Rows, r)
			}
			if m.IntN(8) == 0 {
				item.Rows[0].Cells[0].Head.Marks = ins(text(""), 2, 0).Head.Marks
			}
			if m.IntN(8) == 0 {
				item.Rows[0].Head.Marks = ins(text(""), 1, 7).Head.Marks
			}
		}
	}
	return item
}

// inner makes the content of a note or a cell, most often without marks.
func (m *maker) inner(depth int) []api.Item {
	if m.IntN(3) > 0 {
		return []([]api.Item){nil, flow(text("x")), flow(text("y")), flow(text("x"), para()), flow(bold(text("x"))), flow(table(m.id(), row(cell(m.id()))))}[m.IntN(6)]
	}
	return m.flow(6, depth-1)
}

func (m *maker) flow(most, depth int) []api.Item {
	var l []api.Item
	for range m.IntN(most + 1) {
		item := m.item(depth)
		if marks := m.marks(); len(marks.Layers) == 0 || property.Fits(item.Kind, marks.Layers[0].Key) {
			item.Head.Marks = marks
		}
		l = append(l, item)
	}
	return l
}

// manyDocuments calls a function for many documents in normal form, and for a revision that they have.
func manyDocuments(count int, seed uint64, f func(d api.Document, rev int)) {
	r := rand.New(rand.NewPCG(33, seed))
	for i := range count {
		m := maker{Rand: r}
		d := doc(m.flow(80, 2)...)
		switch i % 10 {
		case 0:
			d = document.Normal(samples.Document(r.IntN))
		case 1:
			a, b := samples.Versions(r.IntN)
			d, _ = compare.Compare(a, b, revs()[0])
		case 2:
			d = samples.Edited(r.IntN, document.Normal(samples.Plain(r.IntN)), 6)
		}
		if document.Check(d) != api.OK || !document.Equal(d, document.Normal(d)) {
			panic("the document is not valid")
		}
		if len(d.Revs) > 0 {
			f(d, d.Revs[r.IntN(len(d.Revs))*(r.IntN(4)/3)].Id)
		}
	}
}
