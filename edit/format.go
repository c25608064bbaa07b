package edit

import (
	"slices"

	"obelus/api"
	"obelus/document"
	"obelus/property"
)

// checkKey returns the error of the key and the value that the edit sets in elements of one of some kinds.
func (c change) checkKey(elements ...int) api.Errno {
	hasKey := func(element int) bool { return property.Fits(element, c.Key) }
	switch {
	case !slices.ContainsFunc(elements, hasKey):
		return api.ErrKey
	case c.Clear && c.Value != 0:
		return api.ErrFormat
	case c.Clear:
		return api.OK
	}
	if e := property.CheckValue(c.Key, c.Value); e != api.OK {
		return e
	}
	return c.checkLink()
}

// checkLink returns the error of a value that names a style or a list.
func (c change) checkLink() api.Errno {
	switch {
	case c.Value == 0:
		return api.OK
	case c.Key == api.KeyParaStyle && !c.hasStyle(api.ParaStyle), c.Key == api.KeyCharStyle && !c.hasStyle(api.CharStyle):
		return api.ErrStyle
	case c.Key == api.KeyList && !slices.ContainsFunc(c.doc.Settings.Lists, func(l api.List) bool { return l.Id == c.Value }):
		return api.ErrList
	}
	return api.OK
}

func (c change) hasStyle(kind int) bool {
	return slices.ContainsFunc(c.doc.Settings.Styles, func(s api.Style) bool { return s.Id == c.Value && s.Kind == kind })
}

// set returns properties with the key of the edit set, or without it.
func (c change) set(l []api.Prop) []api.Prop {
	if c.Clear {
		return property.Clear(l, c.Key)
	}
	return property.Set(l, c.Key, c.Value)
}

func (c change) format() (api.Document, api.Errno) {
	if !isPart(c.At, c.Count, c.units) {
		return api.Document{}, api.ErrRange
	}
	if e := c.checkKey(api.Text, api.Para, api.Section, api.Break, api.Field, api.Note, api.Table, api.Anchor); e != api.OK {
		return api.Document{}, e
	}
	part := c.part()
	for i := range part {
		if property.Fits(part[i].Kind, c.Key) {
			part[i].Head.Props = c.set(part[i].Head.Props)
		}
	}
	return c.replace(c.At, c.At+c.Count, part), api.OK
}

func (c change) formatRow() (api.Document, api.Errno) {
	if !isElement(c.At, len(c.rows)) {
		return api.Document{}, api.ErrRange
	}
	if e := c.checkKey(property.Row); e != api.OK {
		return api.Document{}, e
	}
	head := &c.rows[c.At].Head
	head.Props = c.set(head.Props)
	return c.setRows(c.rows), api.OK
}

func (c change) formatCell() (api.Document, api.Errno) {
	if !isElement(c.At, len(c.rows)) || !isElement(c.Sub, len(c.rows[c.At].Cells)) {
		return api.Document{}, api.ErrRange
	}
	if e := c.checkKey(property.Cell); e != api.OK {
		return api.Document{}, e
	}
	head := &c.rows[c.At].Cells[c.Sub].Head
	head.Props = c.set(head.Props)
	return c.setRows(c.rows), api.OK
}

func (c change) formatEnd() (api.Document, api.Errno) {
	if e := c.checkKey(api.Section); e != api.OK {
		return api.Document{}, e
	}
	changed := c.doc
	changed.End.Props = c.set(changed.End.Props)
	return document.Normal(changed), api.OK
}
