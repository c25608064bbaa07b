package samples

import (
	"slices"

	"obelus/api"
	"obelus/document"
	"obelus/property"
	"obelus/run"
)

// Edit makes an edit that is often, but not always, possible in a plain document. Ids of what it inserts or moves are from 20000 on.
func Edit(pick func(n int) int, d api.Document) api.Edit {
	m := &editor{pick: pick, doc: d, edit: api.Edit{Kind: 1 + pick(14)}}
	tables := document.Tables(d)
	if pick(4) == 0 {
		m.edit.Kind = api.EditMove
	} else if len(tables) > 0 && pick(2) == 0 {
		m.edit.Kind = api.EditInsertRows + pick(6)
	}
	switch m.edit.Kind {
	case api.EditFormatEnd, api.EditSettings:
	case api.EditInsertRows, api.EditDeleteRows, api.EditInsertCells, api.EditDeleteCells, api.EditFormatRow, api.EditFormatCell:
		m.enterTable(tables)
	default:
		m.enterFlow()
	}
	m.fill()
	m.fillTable()
	m.fillKey()
	return m.edit
}

// editor makes an edit of a document.
type editor struct {
	pick func(n int) int
	doc  api.Document
	edit api.Edit
}

// some returns one of some ids, or seldom another number.
func (m *editor) some(ids []int) int {
	if len(ids) == 0 || m.pick(20) == 0 {
		return m.pick(10000) - 1
	}
	return ids[m.pick(len(ids))]
}

func (m *editor) unitsOf(flow int) []api.Item {
	l, _ := document.Flow(m.doc, flow)
	return Units(l)
}

func (m *editor) enterTable(tables []int) {
	e := &m.edit
	e.Flow = m.some(tables)
	table, _ := document.Table(m.doc, e.Flow)
	e.At = m.pick(len(table.Rows) + 1)
	if e.Kind == api.EditInsertCells || e.Kind == api.EditDeleteCells || e.Kind == api.EditFormatCell {
		e.Sub = m.pick(3)
	}
}

func (m *editor) enterFlow() {
	e := &m.edit
	e.Flow = m.some(document.Flows(m.doc))
	units := m.unitsOf(e.Flow)
	e.At = m.pick(len(units)+3) - 1
	if i := slices.IndexFunc(units, isAnchor); i >= 0 && e.Kind == api.EditDropAnchor {
		e.At = i
	}
}

func isAnchor(item api.Item) bool { return item.Kind == api.Anchor }

// items makes items, which seldom have anchors or marks.
func (m *editor) items() []api.Item {
	l := Items(m.pick, m.doc, 20000-m.pick(2)*20000)
	if m.pick(4) > 0 {
		l = Rewrite(0, l, func(_ int, units []api.Item) []api.Item { return slices.DeleteFunc(units, isAnchor) }, nil)
	}
	if len(l) > 0 && m.pick(15) == 0 {
		l[0].Head.Marks.Dels = []api.Del{{Rev: 1}}
	}
	return run.Clone(l)
}

func (m *editor) fill() {
	switch e := &m.edit; e.Kind {
	case api.EditInsert:
		e.Items = m.items()
	case api.EditPutAnchor:
		e.Items = Flow(Anchor(api.CommentStart, m.pick(5)))
	case api.EditMove:
		e.Count, e.To, e.Fresh = m.pick(5), m.some(document.Flows(m.doc)), 30000
		if m.pick(4) == 0 {
			e.Fresh = m.some(document.Ids(m.doc))
		}
		e.ToAt = m.pick(len(m.unitsOf(e.To))+2) - m.pick(2)
	case api.EditDelete:
		e.Count = m.pick(4)
	case api.EditSettings:
		e.Settings = Plain(m.pick).Settings
	}
}

func (m *editor) fillTable() {
	switch e := &m.edit; e.Kind {
	case api.EditDeleteRows, api.EditDeleteCells:
		e.Count = m.pick(3)
	case api.EditInsertRows:
		for i := range m.pick(3) {
			e.Rows = append(e.Rows, Row(Cell(50000+i, m.items()...), Cell(60000+i*m.pick(2))))
		}
	case api.EditInsertCells:
		for i := range m.pick(3) {
			e.Cells = append(e.Cells, Cell(50000+i, m.items()...))
		}
	}
}

func (m *editor) fillKey() {
	switch e := &m.edit; e.Kind {
	case api.EditFormat:
		e.Count = m.pick(5)
		m.setKey(1, 90)
	case api.EditFormatRow:
		m.setKey(api.KeyHeader, api.KeyRowHeight+1)
	case api.EditFormatCell:
		m.setKey(api.KeyColSpan, api.KeyShade+1)
	case api.EditFormatEnd:
		m.setKey(api.KeyPageWidth-1, api.KeyPageFormat+2)
	}
}

// setKey chooses the key, from one on and before another one, and the value.
func (m *editor) setKey(from, to int) {
	e := &m.edit
	e.Key = from + m.pick(to-from)
	if m.pick(4) == 0 {
		e.Key = []int{api.KeyBold, api.KeySize, api.KeyParaStyle, api.KeyCharStyle, api.KeyList, api.KeyAlign}[m.pick(6)]
	}
	e.Value = m.pick(9)
	if low, high, err := property.Bounds(e.Key); err == api.OK && m.pick(2) == 0 {
		e.Value = []int{low, high, low - 1, high + 1}[m.pick(4)]
	}
	if m.pick(4) == 0 {
		e.Clear = true
		e.Value *= m.pick(2)
	}
}
