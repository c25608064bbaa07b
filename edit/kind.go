package edit

import "obelus/api"

// fields are fields of edits, with a bit for each one.
type fields int

const (
	flowField fields = 1 << iota
	atField
	countField
	subField
	toField
	toAtField
	freshField
	keyField
	valueField
	clearField
	itemsField
	rowsField
	cellsField
	settingsField

	assignment = keyField | valueField | clearField
)

// kind is a kind of edits.
type kind struct {
	number  int
	word    string
	uses    fields
	inTable bool // Flow is the id of a table
}

var kinds = [...]kind{
	{api.EditInsert, "insert", flowField | atField | itemsField, false},
	{api.EditDelete, "delete", flowField | atField | countField, false},
	{api.EditFormat, "format", flowField | atField | countField | assignment, false},
	{api.EditMove, "move", flowField | atField | countField | toField | toAtField | freshField, false},
	{api.EditInsertRows, "insert-rows", flowField | atField | rowsField, true},
	{api.EditDeleteRows, "delete-rows", flowField | atField | countField, true},
	{api.EditInsertCells, "insert-cells", flowField | atField | subField | cellsField, true},
	{api.EditDeleteCells, "delete-cells", flowField | atField | subField | countField, true},
	{api.EditFormatRow, "format-row", flowField | atField | assignment, true},
	{api.EditFormatCell, "format-cell", flowField | atField | subField | assignment, true},
	{api.EditPutAnchor, "put-anchor", flowField | atField | itemsField, false},
	{api.EditDropAnchor, "drop-anchor", flowField | atField, false},
	{api.EditFormatEnd, "format-end", assignment, false},
	{api.EditSettings, "settings", settingsField, false},
}

func find(number int) (k kind, known bool) {
	for _, k := range kinds {
		if k.number == number {
			return k, true
		}
	}
	return kind{}, false
}

// fieldsOf returns the fields that are not zero. They are listed in the order of their bits.
func fieldsOf(e api.Edit) fields {
	s := e.Settings
	var used fields
	for i, filled := range [...]bool{
		e.Flow != 0, e.At != 0, e.Count != 0, e.Sub != 0, e.To != 0, e.ToAt != 0, e.Fresh != 0, e.Key != 0, e.Value != 0, e.Clear,
		len(e.Items) > 0, len(e.Rows) > 0, len(e.Cells) > 0,
		len(s.Styles) > 0 || len(s.Lists) > 0 || len(s.Comments) > 0 || len(s.Vars) > 0,
	} {
		if filled {
			used |= 1 << i
		}
	}
	return used
}

func numbers(e api.Edit) [10]int {
	return [...]int{e.Kind, e.Flow, e.At, e.Count, e.Sub, e.To, e.ToAt, e.Fresh, e.Key, e.Value}
}

// wrap returns a document that has the slices of an edit, and unwrap an edit that has those of such a document.
func wrap(e api.Edit) api.Document {
	return api.Document{Flow: []api.Item{{Flow: e.Items, Rows: e.Rows}, {Rows: []api.Row{{Cells: e.Cells}}}}, Settings: e.Settings}
}
func unwrap(e api.Edit, d api.Document) api.Edit {
	e.Items, e.Rows, e.Cells = d.Flow[0].Flow, d.Flow[0].Rows, d.Flow[1].Rows[0].Cells
	e.Settings = d.Settings
	return e
}
