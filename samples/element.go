package samples

import (
	"obelus/api"
	"obelus/property"
)

// Text returns a text with properties; the following functions return the other elements.
func Text(s string, props ...api.Prop) api.Item {
	return api.Item{Kind: api.Text, Text: s, Head: api.Head{Props: props}}
}
func Para(props ...api.Prop) api.Item {
	return api.Item{Kind: api.Para, Head: api.Head{Props: props}}
}
func Section(props ...api.Prop) api.Item {
	return api.Item{Kind: api.Section, Head: api.Head{Props: props}}
}
func Break(code int) api.Item           { return api.Item{Kind: api.Break, Code: code} }
func Field(instruction string) api.Item { return api.Item{Kind: api.Field, Text: instruction} }
func Note(id int, l ...api.Item) api.Item {
	return api.Item{Kind: api.Note, Code: api.Footnote, Id: id, Flow: l}
}
func Table(id int, rows ...api.Row) api.Item {
	return api.Item{Kind: api.Table, Id: id, Rows: rows}
}
func Row(cells ...api.Cell) api.Row       { return api.Row{Cells: cells} }
func Cell(id int, l ...api.Item) api.Cell { return api.Cell{Id: id, Flow: l} }

// Start returns the start of a bookmark, and Anchor another anchor.
func Start(id int, name string) api.Item {
	return api.Item{Kind: api.Anchor, Code: api.BookmarkStart, Id: id, Text: name}
}
func Anchor(code, id int) api.Item { return api.Item{Kind: api.Anchor, Code: code, Id: id} }

// Flow returns a flow, and Doc a document that has only a body.
func Flow(l ...api.Item) []api.Item  { return l }
func Doc(l ...api.Item) api.Document { return api.Document{Flow: l} }

// Wrong makes a document of which some items are not valid in some way.
func Wrong(pick func(n int) int) api.Document {
	d := Document(pick)
	Spoil(pick, d.Flow)
	return d
}

// Spoil makes some items of a flow, at any depth, not valid.
func Spoil(pick func(n int) int, l []api.Item) {
	for i := range l {
		item := &l[i]
		Spoil(pick, item.Flow)
		for _, row := range item.Rows {
			for _, cell := range row.Cells {
				Spoil(pick, cell.Flow)
			}
		}
		switch pick(8) {
		case 0:
			item.Kind = pick(13) - 1
		case 1:
			item.Id = pick(3) - 1
		case 2:
			item.Text = "\xFF"
		case 3:
			item.Rows = append(item.Rows, api.Row{})
		case 4:
			item.Head.Props = []api.Prop{{Key: property.Cell, Value: -1}, {Key: -1}}
		}
	}
}

// Deep returns a number of tables, or of notes, within one another, with a text, a table or a note, and a paragraph mark in each flow. Ids are from 1 on, from inside out.
func Deep(count int) (tables, notes []api.Item) {
	for i := range count {
		tables = Flow(Text("a"), Table(2*i+1, Row(Cell(2*i+2, tables...))), Para())
		notes = Flow(Text("a"), Note(i+1, notes...), Para())
	}
	return tables, notes
}
