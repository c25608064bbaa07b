package samples

import (
	"slices"

	"obelus/api"
	"obelus/document"
	"obelus/property"
	"obelus/run"
	"obelus/splice"
)

// Splice makes a splice that can often, but not always, be applied to a document with some revisions. New ids are from 20000 on, and different at most calls.
func Splice(pick func(n int) int, d api.Document, revs []api.Rev) api.Splice {
	m := &splicer{maker{pick: pick, doc: document.Normal(d), first: 20000 + 10007*pick(50000)}}
	m.doc.Revs = revs
	s := api.Splice{Kind: 1 + pick(7)}
	if tables := document.Tables(m.doc); len(tables) > 0 && m.often() {
		s.Kind = api.SpliceRows + pick(4)
	} else if m.often() || len(tables) == 0 && s.Kind <= api.SpliceCell && !m.seldom() {
		s.Kind = api.SpliceItems
	}
	switch s.Kind {
	case api.SpliceItems:
		m.fillItems(&s)
	case api.SpliceEnd:
		s.Old.Head, s.New.Head = m.doc.End, m.head(api.Section)
		if pick(8) > 0 {
			s.New.Head.Marks = api.Marks{Layers: s.New.Head.Marks.Layers}
		}
	case api.SpliceSet:
		s.Old.Settings, s.New.Settings = m.doc.Settings, Plain(pick).Settings
	default:
		m.fillTable(&s)
	}
	if pick(5) == 0 {
		m.mistake(&s)
	}
	return s
}

// Splices makes at most a number of splices that can be run with some revisions, one after another on a document, and the documents behind each of them.
func Splices(pick func(n int) int, d api.Document, count int, revs []api.Rev) (l []api.Splice, behind []api.Document) {
	for range 8 * count {
		s := Splice(pick, d, revs)
		next, e := splice.Apply(d, s, revs)
		if e == api.OK && len(l) < count {
			l, behind, d = append(l, s), append(behind, next), next
		}
	}
	return l, behind
}

// splicer makes a splice of the document of its maker.
type splicer struct{ maker }

// one returns one of some ids, or 0.
func (m *splicer) one(ids []int) int {
	if len(ids) == 0 {
		return 0
	}
	return ids[m.pick(len(ids))]
}

// part returns the bounds of a part of a list.
func (m *splicer) part(length int) (from, to int) {
	from = m.pick(length + 1)
	return from, from + m.pick(min(4, length-from+1))
}

func (m *splicer) fillItems(s *api.Splice) {
	s.Id = m.one(document.Flows(m.doc))
	l, _ := document.Flow(m.doc, s.Id)
	units := Units(l)
	from, to := m.part(len(units))
	if i := slices.IndexFunc(units, hasFlows); i >= 0 && m.often() {
		from, to = max(i-m.pick(2), 0), min(i+1+m.pick(2), len(units))
	}
	s.At, s.Old.Items = from, run.Normal(units[from:to])
	switch m.pick(4) {
	case 0:
	case 1:
		s.New.Items = run.Normal(m.flow(3, surroundings{body: s.Id == 0}))
	default:
		s.New.Items = run.Normal(m.changed(units[from:to]))
	}
}

func hasFlows(item api.Item) bool { return item.Kind == api.Note || item.Kind == api.Table }

// changed returns items of which some, at any depth, are left out, and with others among them.
func (m *splicer) changed(l []api.Item) []api.Item {
	return Rewrite(0, l, func(_ int, units []api.Item) []api.Item {
		var all []api.Item
		for _, u := range units {
			if !m.seldom() {
				all = append(all, u)
			}
			if m.seldom() {
				all = append(all, m.texts(Text(""))...)
			}
		}
		return all
	}, nil)
}

func (m *splicer) fillTable(s *api.Splice) {
	s.Id = m.one(document.Tables(m.doc))
	table, _ := document.Table(m.doc, s.Id)
	s.At = m.pick(max(len(table.Rows), 1))
	var row api.Row
	if len(table.Rows) > 0 {
		row = table.Rows[s.At]
	}
	switch s.Kind {
	case api.SpliceRows:
		from, to := m.part(len(table.Rows))
		s.At, s.Old.Rows = from, table.Rows[from:to]
		s.New.Rows = m.newRows(s.Old.Rows, m.rows(surroundings{}))
	case api.SpliceCells:
		from, to := m.part(len(row.Cells))
		s.Sub, s.Old.Cells = from, row.Cells[from:to]
		for _, r := range m.newRows([]api.Row{Row(s.Old.Cells...)}, m.rows(surroundings{})[:1]) {
			s.New.Cells = r.Cells
		}
	case api.SpliceRow:
		s.Old.Head, s.New.Head = row.Head, m.head(property.Row)
	case api.SpliceCell:
		s.Sub = m.pick(max(len(row.Cells), 1))
		s.New.Head = m.head(property.Cell)
		if s.Sub < len(row.Cells) {
			s.Old.Head = row.Cells[s.Sub].Head
		}
	}
}

// newRows returns no rows, or other ones, or old ones that are changed, in normal form.
func (m *splicer) newRows(old, other []api.Row) []api.Row {
	table := Flow(Table(1, other...))
	switch m.pick(4) {
	case 0:
		return nil
	case 1, 2:
		table = m.changed(Flow(Table(1, old...)))
	}
	for _, item := range run.Normal(table) {
		if item.Kind == api.Table {
			return item.Rows
		}
	}
	return nil
}

// mistake makes a splice that is most often not possible.
func (m *splicer) mistake(s *api.Splice) {
	switch m.pick(7) {
	case 0:
		s.Id = m.pick(10000)
	case 1:
		s.At += m.pick(7) - 3
	case 2:
		s.Sub += m.pick(3) - 1
	case 3:
		s.Old = copyPiece(s.New)
	case 4:
		s.New.Head = m.head(api.Text)
	case 5:
		s.New.Items = append(s.New.Items, Text(""), Section())
	case 6:
		m.forget(&s.Old)
	}
}

// forget makes a piece that has other heads than before.
func (m *splicer) forget(p *api.Piece) {
	for i := range p.Items {
		p.Items[i].Head = m.head(p.Items[i].Kind)
	}
	for i := range p.Rows {
		p.Rows[i].Head = m.head(property.Row)
	}
	for i := range p.Cells {
		p.Cells[i].Head = m.head(property.Cell)
	}
	if len(p.Head.Props) > 0 {
		p.Head = api.Head{}
	}
}

// copyPiece returns a piece that has its own memory.
func copyPiece(p api.Piece) api.Piece {
	c := document.Clone(api.Document{Flow: Flow(Table(0, p.Rows...), Table(0, Row(p.Cells...)), Note(0, p.Items...)), End: p.Head, Settings: p.Settings})
	return api.Piece{Items: c.Flow[2].Flow, Rows: c.Flow[0].Rows, Cells: c.Flow[1].Rows[0].Cells, Head: c.End, Settings: c.Settings}
}
