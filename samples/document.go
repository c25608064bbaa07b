package samples

import (
	"slices"

	"obelus/api"
	"obelus/property"
)

// Document makes a valid document, not always in normal form, with elements of all kinds. It chooses with pick(n), a number from 0 to n - 1.
func Document(pick func(n int) int) api.Document {
	m := &maker{pick: pick}
	m.doc.Settings = m.settings()
	m.doc.Revs = beginning(pick, Revs()[1:])
	return m.document()
}

// Plain makes a valid document like Document, but without marks.
func Plain(pick func(n int) int) api.Document {
	m := &maker{pick: pick}
	m.doc.Settings = m.settings()
	return m.document()
}

// Revs returns the revisions of which documents have some, behind one that none of them has.
func Revs() []api.Rev {
	return []api.Rev{{Id: 3, Author: "Dan"}, {Id: 1, Author: "Ann", Time: 5}, {Id: 2, Author: "Bob", Time: 3}, {Id: 4, Author: "Ann"}, {Id: 9, Author: "Cyd", Time: api.MaxTime}}
}

// Items makes items that are valid in the body of a document if their ids, which are from first on, are not in it.
func Items(pick func(n int) int, d api.Document, first int) []api.Item {
	m := &maker{pick: pick, doc: d, first: first - 1}
	return m.flow(5, surroundings{body: true})
}

// beginning returns some elements from the beginning of a list.
func beginning[T any](pick func(n int) int, l []T) []T { return l[:pick(len(l)+1)] }

// surroundings say what is around a flow: whether it is the body, or in a note, and the number of tables.
type surroundings struct {
	body, noted bool
	tables      int
}

// maker makes the elements of a document.
type maker struct {
	pick  func(n int) int
	doc   api.Document
	first int // ids are greater
	ids   int
}

// settings makes the tables of a document.
func (m *maker) settings() api.Settings {
	return api.Settings{
		Styles: beginning(m.pick, []api.Style{
			{Id: 1, Kind: api.ParaStyle, Name: "Normal", Props: m.props(api.KeySize, api.KeyAfter)},
			{Id: 2, Kind: api.ParaStyle, Name: "Heading", Base: 1, Next: 1, Props: m.props(api.KeyBold, api.KeyAlign, api.KeyOutline)},
			{Id: 4, Kind: api.CharStyle, Name: "Code", Props: m.props(api.KeyFont)},
			{Id: 7, Kind: api.CharStyle, Name: "Strong", Base: 4, Props: m.props(api.KeyBold, api.KeyColor)},
		}),
		Lists: beginning(m.pick, []api.List{
			{Id: 3, Levels: []api.Level{{Format: api.Decimal, Start: 1, Template: "%1."}, {Format: api.LowerAlpha, Template: "%1-%2", Restart: 1}}},
			{Id: 5, Levels: []api.Level{{Format: api.Bullet, Template: "%1"}}},
		}),
		Comments: beginning(m.pick, []api.Comment{
			{Id: 1, Author: "Ann", Time: 5, Text: "why?"},
			{Id: 6, Parent: 1, Author: "Bob", Text: "\u00e9", Done: true},
		}),
		Vars: beginning(m.pick, []api.Var{{Name: "a", Value: "1"}, {Name: "b-2"}}),
	}
}

// document makes a document that has the tables and the revisions of the maker.
func (m *maker) document() api.Document {
	m.doc.Flow = m.flow(8, surroundings{body: true})
	m.doc.End = m.head(api.Section)
	m.doc.End.Marks = api.Marks{Layers: m.doc.End.Marks.Layers}
	return m.doc
}

// id returns a new id; ids do not increase.
func (m *maker) id() int {
	m.ids++
	return m.first + m.ids*4001%10007
}

func (m *maker) often() bool  { return m.pick(2) == 0 }
func (m *maker) seldom() bool { return m.pick(8) == 0 }

func (m *maker) flow(most int, around surroundings) []api.Item {
	var l []api.Item
	for range m.pick(most + 1) {
		l = append(l, m.items(around)...)
	}
	return l
}

// items makes one item, or texts of which some are joined in the normal form.
func (m *maker) items(around surroundings) []api.Item {
	kinds := []int{api.Text, api.Text, api.Text, api.Para, api.Para, api.Break, api.Field, api.Anchor, api.Note, api.Table, api.Section}
	item := api.Item{Kind: kinds[m.pick(len(kinds))]}
	if item.Kind == api.Section && !around.body || item.Kind == api.Note && around.noted || item.Kind == api.Table && around.tables >= api.MaxDepth {
		item.Kind = api.Para
	}
	item.Head = m.head(item.Kind)
	switch item.Kind {
	case api.Text:
		return m.texts(item)
	case api.Break:
		item.Code = 1 + m.pick(3)
	case api.Field:
		item.Text = "page"
	case api.Anchor:
		item.Code, item.Id = 1+m.pick(4), 1+m.pick(3)
		if item.Code == api.BookmarkStart {
			item.Text = "mark"
		}
	case api.Note:
		item.Code, item.Id = 1+m.pick(2), m.id()
		item.Flow = m.flow(3, surroundings{false, true, around.tables})
	case api.Table:
		item.Id = m.id()
		item.Rows = m.rows(surroundings{false, around.noted, around.tables + 1})
	}
	return []api.Item{item}
}

func (m *maker) texts(item api.Item) []api.Item {
	strings := []string{"a", "bc", "\u00e9", "\U0001F600d", "\n"}
	var l []api.Item
	for range 1 + m.pick(3) {
		item.Text = strings[m.pick(len(strings))]
		item.Head.Props = slices.Clone(item.Head.Props)
		item.Head.Marks.Dels = slices.Clone(item.Head.Marks.Dels)
		item.Head.Marks.Layers = slices.Clone(item.Head.Marks.Layers)
		l = append(l, item)
	}
	return l
}

func (m *maker) rows(around surroundings) []api.Row {
	var rows []api.Row
	for range 1 + m.pick(2) {
		row := api.Row{Head: m.head(property.Row)}
		for range 1 + m.pick(2) {
			row.Cells = append(row.Cells, api.Cell{Id: m.id(), Head: m.head(property.Cell), Flow: m.flow(3, around)})
		}
		rows = append(rows, row)
	}
	return rows
}

// head makes the head of an element of a kind.
func (m *maker) head(kind int) api.Head {
	var head api.Head
	if m.often() {
		head.Props = m.props(m.keys(kind)...)
	}
	if len(m.doc.Revs) == 0 || m.often() {
		return head
	}
	marks := &head.Marks
	if m.often() {
		marks.Ins, marks.Move = m.rev(), m.pick(2)
	}
	for _, r := range m.doc.Revs {
		if m.seldom() {
			marks.Dels = append(marks.Dels, api.Del{Rev: r.Id, Move: m.pick(2)})
		}
	}
	for _, key := range m.keys(kind) {
		for range m.pick(3) {
			layer := api.Layer{Rev: m.rev(), Key: key, Had: m.often()}
			if layer.Had {
				layer.Before = m.value(key)
			}
			marks.Layers = append(marks.Layers, layer)
		}
	}
	return head
}

func (m *maker) rev() int { return m.doc.Revs[m.pick(len(m.doc.Revs))].Id }

// keys returns some keys of the elements of a kind.
func (m *maker) keys(kind int) []int {
	var keys []int
	for key := api.KeyCharStyle; key <= api.KeyTableAlign; key++ {
		if property.Fits(kind, key) && m.seldom() {
			keys = append(keys, key)
		}
	}
	return keys
}

func (m *maker) props(keys ...int) []api.Prop {
	var l []api.Prop
	for _, key := range keys {
		l = append(l, api.Prop{Key: key, Value: m.value(key)})
	}
	return l
}

// value returns one of a few values of a key.
func (m *maker) value(key int) int {
	values := []int{0}
	for _, style := range m.doc.Settings.Styles {
		if style.Kind == api.ParaStyle && key == api.KeyParaStyle || style.Kind == api.CharStyle && key == api.KeyCharStyle {
			values = append(values, style.Id)
		}
	}
	for _, list := range m.doc.Settings.Lists {
		if key == api.KeyList {
			values = append(values, list.Id)
		}
	}
	if key != api.KeyParaStyle && key != api.KeyCharStyle && key != api.KeyList {
		low, high, _ := property.Bounds(key)
		values = []int{low, low + 1, high}
	}
	return values[m.pick(len(values))]
}

// Decision makes a valid decision about some revisions of an increasing list of ids; the others are undecided.
func Decision(pick func(n int) int, revs []int) api.Decision {
	var c api.Decision
	for _, rev := range revs {
		switch pick(3) {
		case 0:
			c.Accept = append(c.Accept, rev)
		case 1:
			c.Reject = append(c.Reject, rev)
		}
	}
	return c
}
