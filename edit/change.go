package edit

import (
	"obelus/api"
	"obelus/document"
	"obelus/run"
)

// change is an edit of a document, with copies of what it changes.
type change struct {
	api.Edit
	doc   api.Document
	items []api.Item // of the flow
	units int        // of the flow
	rows  []api.Row  // of the table
}

// effects returns for each kind the function that returns the document behind an edit, or the first error.
func effects() map[int]func(c change) (api.Document, api.Errno) {
	return map[int]func(c change) (api.Document, api.Errno){
		api.EditInsert:      change.insert,
		api.EditDelete:      change.remove,
		api.EditFormat:      change.format,
		api.EditMove:        change.move,
		api.EditInsertRows:  change.insertRows,
		api.EditDeleteRows:  change.deleteRows,
		api.EditInsertCells: change.insertCells,
		api.EditDeleteCells: change.deleteCells,
		api.EditFormatRow:   change.formatRow,
		api.EditFormatCell:  change.formatCell,
		api.EditPutAnchor:   change.putAnchor,
		api.EditDropAnchor:  change.dropAnchor,
		api.EditFormatEnd:   change.formatEnd,
		api.EditSettings:    change.settings,
	}
}

// open finds the flow or the table that edits of a kind change.
func (c *change) open(k kind) (found bool) {
	switch {
	case k.inTable:
		var table api.Item
		table, found = document.Table(c.doc, c.Flow)
		c.rows = table.Rows
		return found
	case k.uses&flowField != 0:
		c.items, found = document.Flow(c.doc, c.Flow)
		c.units, _ = run.Len(c.items)
		return found
	}
	return true
}

// isPlace reports whether a number is that of a place between some elements, isElement whether it is that of an element, and isPart whether there are elements from it on.
func isPlace(at, length int) bool   { return 0 <= at && at <= length }
func isElement(at, length int) bool { return 0 <= at && at < length }
func isPart(at, count, length int) bool {
	return isPlace(at, length) && 1 <= count && count <= length-at
}

// replace returns the document in which some units of the flow are replaced by items.
func (c change) replace(from, to int, with []api.Item) api.Document {
	l, _ := run.Replace(c.items, from, to, with)
	changed, _ := document.SetFlow(c.doc, c.Flow, l)
	return changed
}

// part returns the items of the units of the edit, and divide the anchors and the other items among them.
func (c change) part() []api.Item {
	l, _ := run.Slice(c.items, c.At, c.At+c.Count)
	return l
}
func (c change) divide() (anchors, others []api.Item) {
	for _, item := range c.part() {
		if item.Kind == api.Anchor {
			anchors = append(anchors, item)
		} else {
			others = append(others, item)
		}
	}
	return anchors, others
}

func (c change) insert() (api.Document, api.Errno) {
	switch {
	case !isPlace(c.At, c.units):
		return api.Document{}, api.ErrRange
	case len(c.Items) == 0:
		return api.Document{}, api.ErrEmpty
	}
	if e := checkContent(c.Items); e != api.OK {
		return api.Document{}, e
	}
	if e := document.CheckInsert(c.doc, c.Flow, c.Items); e != api.OK {
		return api.Document{}, e
	}
	return c.replace(c.At, c.At, c.Items), api.OK
}

func (c change) remove() (api.Document, api.Errno) {
	if !isPart(c.At, c.Count, c.units) {
		return api.Document{}, api.ErrRange
	}
	anchors, _ := c.divide()
	return c.replace(c.At, c.At+c.Count, anchors), api.OK
}

func (c change) putAnchor() (api.Document, api.Errno) {
	switch {
	case !isPlace(c.At, c.units):
		return api.Document{}, api.ErrRange
	case len(c.Items) != 1 || c.Items[0].Kind != api.Anchor:
		return api.Document{}, api.ErrFormat
	case checkContent(c.Items) == api.ErrMark:
		return api.Document{}, api.ErrMark
	}
	if e := document.CheckInsert(c.doc, c.Flow, c.Items); e != api.OK {
		return api.Document{}, e
	}
	return c.replace(c.At, c.At, c.Items), api.OK
}

func (c change) dropAnchor() (api.Document, api.Errno) {
	index, _, e := run.Index(c.items, c.At)
	switch {
	case e != api.OK:
		return api.Document{}, api.ErrRange
	case c.items[index].Kind != api.Anchor:
		return api.Document{}, api.ErrKind
	}
	return c.replace(c.At, c.At+1, nil), api.OK
}

func (c change) settings() (api.Document, api.Errno) {
	changed := c.doc
	changed.Settings = c.Settings
	if e := document.Check(changed); e != api.OK {
		return api.Document{}, e
	}
	return document.Normal(changed), api.OK
}
