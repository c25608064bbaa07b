package samples

import (
	"slices"

	"obelus/api"
	"obelus/document"
	"obelus/property"
)

// Versions makes two valid documents without marks and with equal settings that have much in common: in the second one, units, paragraphs, rows and cells of the first one are missing, new, moved, or have other properties. Neither is always in normal form.
func Versions(pick func(n int) int) (a, b api.Document) {
	m := &maker{pick: pick}
	m.doc.Settings = m.settings()
	a = m.doc
	for range 1 + pick(6) {
		a.Flow = append(a.Flow, m.block(surroundings{body: true})...)
	}
	a.End = m.head(api.Section)
	for range 10 {
		if b = m.version(a); document.Check(b) == api.OK {
			return a, b
		}
	}
	return a, document.Clone(a)
}

// words makes texts of a line, with other items among them.
func (m *maker) words(around surroundings) []api.Item {
	words := []string{"the", "cat", "sat", "on", "a", "mat", "\u00e9t\u00e9", "3.5", "e\u0301", "it's", "\u4e00\u4e8c", ".", ",", "\r", "house", "  "}
	var l []api.Item
	for range 1 + m.pick(9) {
		item := Text(words[m.pick(len(words))])
		if m.seldom() {
			item.Head = m.head(api.Text)
		}
		l = append(l, item, Text(" "))
		if m.pick(12) == 0 {
			l = append(l, m.items(around)...)
		}
	}
	return l
}

// block makes a paragraph, seldom without a mark, a section mark, or a table.
func (m *maker) block(around surroundings) []api.Item {
	if around.body && m.pick(12) == 0 {
		return []api.Item{{Kind: api.Section, Head: m.head(api.Section)}}
	}
	if m.pick(4) > 0 || around.tables > 1 {
		l := m.words(around)
		if m.seldom() {
			return l
		}
		return append(l, api.Item{Kind: api.Para, Head: m.head(api.Para)})
	}
	table := api.Item{Kind: api.Table, Id: m.id(), Head: m.head(api.Table)}
	for range 1 + m.pick(3) {
		table.Rows = append(table.Rows, m.row(around))
	}
	return []api.Item{table}
}

// row makes a row, and cell a cell, of a table in some surroundings.
func (m *maker) row(around surroundings) api.Row {
	row := api.Row{Head: m.head(property.Row)}
	for range 1 + m.pick(2) {
		row.Cells = append(row.Cells, m.cell(around))
	}
	return row
}
func (m *maker) cell(around surroundings) api.Cell {
	around = surroundings{noted: around.noted, tables: around.tables + 1}
	cell := api.Cell{Id: m.id(), Head: m.head(property.Cell)}
	for range m.pick(3) {
		cell.Flow = append(cell.Flow, m.block(around)...)
	}
	return cell
}

// version makes another version of a document, which is not always valid.
func (m *maker) version(a api.Document) api.Document {
	b := document.Clone(a)
	b.Flow = Rewrite(0, b.Flow, m.changedUnits, m.changedRows)
	if m.seldom() {
		b.End = m.head(api.Section)
	}
	b = document.Clone(b)
	if m.often() {
		b = document.Renumber(b)
	}
	return b
}

// changedUnits makes another version of the units of a flow.
func (m *maker) changedUnits(id int, units []api.Item) []api.Item {
	around := surroundings{body: id == 0, noted: id != 0, tables: 2}
	var l []api.Item
	for i := 0; i < len(units); i++ {
		switch m.pick(60) {
		case 0:
			i += m.pick(12)
			continue
		case 1:
			l = append(l, m.words(around)...)
		case 2:
			l = append(l, m.block(surroundings{body: around.body, noted: around.noted})...)
		case 3:
			if units[i].Kind != api.Anchor {
				units[i].Head = m.head(units[i].Kind)
			}
		}
		l = append(l, units[i])
	}
	if m.pick(4) == 0 {
		from, to := m.pick(len(l)+1), m.pick(len(l)+1)
		from, to = min(from, to), max(from, to)
		part, rest := slices.Clone(l[from:to]), slices.Delete(l, from, to)
		l = slices.Insert(rest, m.pick(len(rest)+1), part...)
	}
	return l
}

// changedRows makes another version of the rows of a table.
func (m *maker) changedRows(_ int, rows []api.Row) []api.Row {
	var l []api.Row
	around := surroundings{noted: true, tables: 2}
	for _, row := range rows {
		switch m.pick(10) {
		case 0:
			continue
		case 1:
			l = append(l, m.row(around))
		case 2:
			row.Head = m.head(property.Row)
		}
		l = append(l, m.changedRow(row, around))
	}
	if len(l) == 0 {
		return rows
	}
	return l
}

func (m *maker) changedRow(row api.Row, around surroundings) api.Row {
	var cells []api.Cell
	for _, cell := range row.Cells {
		switch m.pick(12) {
		case 0:
			continue
		case 1:
			cells = append(cells, m.cell(around))
		case 2:
			cell.Head = m.head(property.Cell)
		}
		cells = append(cells, cell)
	}
	if len(cells) == 0 {
		return row
	}
	return api.Row{Head: row.Head, Cells: cells}
}
