package document

import (
	"obelus/api"
	"obelus/codepoint"
	"obelus/property"
)

// checker checks elements one after another.
type checker struct {
	tables
	taken  map[int]bool // the ids of the document into which the elements are inserted
	before map[int]bool // the ids of the elements before
}

// checkFlow returns the first error of the elements of a flow; they come to units that are there already.
func (c checker) checkFlow(f flow, units int) api.Errno {
	c.before = make(map[int]bool)
	for e := range f.elements() {
		if err := c.checkElement(e); err != api.OK {
			return err
		}
		units += e.units()
	}
	if units > api.MaxUnits {
		return api.ErrLimit
	}
	return api.OK
}

func (c checker) checkElement(e element) api.Errno {
	switch {
	case e.cell != nil:
		if err := c.checkNew(e.cell.Id); err != api.OK {
			return err
		}
		return c.checkHead(property.Cell, e.cell.Head)
	case e.row != nil:
		if err := c.checkHead(property.Row, e.row.Head); err != api.OK {
			return err
		}
		return checkCount(len(e.row.Cells), api.MaxColumns)
	}
	return c.checkItem(e)
}

func (c checker) checkItem(e element) api.Errno {
	item := *e.item
	if err := checkFields(item); err != api.OK {
		return err
	}
	if err := checkString(item); err != api.OK {
		return err
	}
	if err := e.checkPlace(); err != api.OK {
		return err
	}
	if err := c.checkItemId(item); err != api.OK {
		return err
	}
	if err := c.checkHead(item.Kind, item.Head); err != api.OK || item.Kind != api.Table {
		return err
	}
	return checkCount(len(item.Rows), api.MaxRows)
}

// fields says which fields an item uses.
type fields struct {
	codes                int // the greatest code; 0: it uses none
	id, text, flow, rows bool
}

func fieldsOf(item api.Item) fields {
	switch item.Kind {
	case api.Text, api.Field:
		return fields{text: true}
	case api.Break:
		return fields{codes: api.Tab}
	case api.Note:
		return fields{codes: api.Endnote, id: true, flow: true}
	case api.Table:
		return fields{id: true, rows: true}
	case api.Anchor:
		return fields{codes: api.CommentEnd, id: true, text: item.Code == api.BookmarkStart}
	}
	return fields{}
}

// checkFields returns the error of the kind, the code, and fields that must be empty.
func checkFields(item api.Item) api.Errno {
	uses := fieldsOf(item)
	switch {
	case item.Kind < api.Text || item.Kind > api.Anchor:
		return api.ErrKind
	case uses.codes > 0 && (item.Code < 1 || item.Code > uses.codes):
		return api.ErrKind
	case uses.codes == 0 && item.Code != 0:
		return api.ErrFormat
	case !uses.id && item.Id != 0, !uses.text && item.Text != "", !uses.flow && len(item.Flow) > 0, !uses.rows && len(item.Rows) > 0:
		return api.ErrFormat
	}
	return api.OK
}

func checkString(item api.Item) api.Errno {
	switch {
	case !codepoint.Valid(item.Text):
		return api.ErrUTF8
	case item.Text == "" && (item.Kind == api.Text || item.Kind == api.Field):
		return api.ErrEmpty
	case item.Kind == api.Field && len(item.Text) > api.MaxText:
		return api.ErrLong
	case item.Kind == api.Anchor && item.Code == api.BookmarkStart:
		return checkName(item.Text)
	}
	return api.OK
}

// checkPlace returns the error of an item that must not stand in its flow.
func (e element) checkPlace() api.Errno {
	switch {
	case e.item.Kind == api.Section && e.in.id != 0, e.isNote() && e.in.noted:
		return api.ErrFlow
	case e.isTable() && e.in.tables >= api.MaxDepth:
		return api.ErrDepth
	}
	return api.OK
}

func (c checker) checkItemId(item api.Item) api.Errno {
	switch item.Kind {
	case api.Note, api.Table:
		return c.checkNew(item.Id)
	case api.Anchor:
		return checkId(item.Id)
	}
	return api.OK
}

// checkNew returns the error of the id of a note, a table or a cell, and notes the id.
func (c checker) checkNew(id int) api.Errno {
	switch {
	case checkId(id) != api.OK || c.taken[id]:
		return api.ErrId
	case c.before[id]:
		return api.ErrDuplicate
	}
	c.before[id] = true
	return api.OK
}

// checkCount returns the error of the number of rows of a table, or of cells of a row.
func checkCount(count, most int) api.Errno {
	switch {
	case count == 0:
		return api.ErrEmpty
	case count > most:
		return api.ErrLimit
	}
	return api.OK
}
