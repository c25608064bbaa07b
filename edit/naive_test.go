package edit_test

import (
	"fmt"
	"slices"

	"obelus/api"
	"obelus/document"
	"obelus/edit"
	"obelus/property"
	"obelus/samples"
)

var (
	text, para, section, note, table = samples.Text, samples.Para, samples.Section, samples.Note, samples.Table
	row, cell, flow, doc             = samples.Row, samples.Cell, samples.Flow, samples.Doc
)

func comment(id int) api.Item         { return samples.Anchor(api.CommentStart, id) }
func prop(key, value int) api.Prop    { return api.Prop{Key: key, Value: value} }
func inserted(item api.Item) api.Item { item.Head.Marks.Ins = 1; return item }

// show returns a string that is equal for equal values, where nil and empty slices are equal.
func show(v any) string { return fmt.Sprintf("%+v", v) }

// join returns lists one after another.
func join[T any](lists ...[]T) []T { return slices.Concat(lists...) }

func naiveSet(l []api.Prop, e api.Edit) []api.Prop {
	if e.Clear {
		return property.Clear(l, e.Key)
	}
	return property.Set(l, e.Key, e.Value)
}

// naiveRenumber gives new ids to the notes, tables and cells in items.
func naiveRenumber(l []api.Item, next *int) []api.Item {
	fresh := func() int { *next++; return *next - 1 }
	var all []api.Item
	for _, item := range l {
		if item.Kind == api.Note {
			item.Id = fresh()
			item.Flow = naiveRenumber(item.Flow, next)
		}
		if item.Kind == api.Table {
			item.Id = fresh()
			var rows []api.Row
			for _, r := range item.Rows {
				var cells []api.Cell
				for _, c := range r.Cells {
					id := fresh()
					cells = append(cells, api.Cell{Id: id, Head: c.Head, Flow: naiveRenumber(c.Flow, next)})
				}
				rows = append(rows, api.Row{Head: r.Head, Cells: cells})
			}
			item.Rows = rows
		}
		all = append(all, item)
	}
	return all
}

// naiveMove returns the document behind a move. The place to which units come is noted by an item without a kind while they are taken away.
func naiveMove(d api.Document, e api.Edit) api.Document {
	var moved []api.Item
	place := api.Item{Kind: -1}
	taken := func(units []api.Item, from int) []api.Item {
		var rest []api.Item
		at := 0
		for _, u := range units {
			if u.Kind == place.Kind {
				rest = append(rest, u)
				continue
			}
			if at >= from && at < from+e.Count && u.Kind != api.Anchor {
				moved = append(moved, u)
			} else {
				rest = append(rest, u)
			}
			at++
		}
		return rest
	}
	d = samples.WithFlow(d, e.To, func(l []api.Item) []api.Item { return join(l[:e.ToAt], flow(place), l[e.ToAt:]) })
	d = samples.WithFlow(d, e.Flow, func(l []api.Item) []api.Item { return taken(l, e.At) })
	next := e.Fresh
	moved = naiveRenumber(moved, &next)
	return samples.WithFlow(d, e.To, func(l []api.Item) []api.Item {
		i := slices.IndexFunc(l, func(u api.Item) bool { return u.Kind == place.Kind })
		return join(l[:i], moved, l[i+1:])
	})
}

// naiveApply returns the document behind an edit without an error, not in normal form.
func naiveApply(d api.Document, e api.Edit) api.Document {
	end := e.At + e.Count
	switch e.Kind {
	case api.EditInsert, api.EditPutAnchor:
		return samples.WithFlow(d, e.Flow, func(l []api.Item) []api.Item { return join(l[:e.At], e.Items, l[e.At:]) })
	case api.EditDelete:
		return samples.WithFlow(d, e.Flow, func(l []api.Item) []api.Item {
			anchors := slices.DeleteFunc(slices.Clone(l[e.At:end]), func(u api.Item) bool { return u.Kind != api.Anchor })
			return join(l[:e.At], anchors, l[end:])
		})
	case api.EditFormat:
		return samples.WithFlow(d, e.Flow, func(l []api.Item) []api.Item {
			for i := e.At; i < end; i++ {
				if property.Fits(l[i].Kind, e.Key) {
					l[i].Head.Props = naiveSet(l[i].Head.Props, e)
				}
			}
			return l
		})
	case api.EditMove:
		return naiveMove(d, e)
	case api.EditInsertRows:
		return samples.WithTable(d, e.Flow, func(l []api.Row) []api.Row { return join(l[:e.At], e.Rows, l[e.At:]) })
	case api.EditDeleteRows:
		return samples.WithTable(d, e.Flow, func(l []api.Row) []api.Row { return join(l[:e.At], l[end:]) })
	case api.EditDropAnchor:
		return samples.WithFlow(d, e.Flow, func(l []api.Item) []api.Item { return join(l[:e.At], l[e.At+1:]) })
	case api.EditFormatEnd:
		d.End.Props = naiveSet(d.End.Props, e)
	case api.EditSettings:
		d.Settings = e.Settings
	default:
		return samples.WithTable(d, e.Flow, func(l []api.Row) []api.Row { return naiveRow(l, e) })
	}
	return d
}

// naiveRow returns rows in which an edit has changed one row or one of its cells.
func naiveRow(l []api.Row, e api.Edit) []api.Row {
	r := &l[e.At]
	switch e.Kind {
	case api.EditInsertCells:
		r.Cells = join(r.Cells[:e.Sub], e.Cells, r.Cells[e.Sub:])
	case api.EditDeleteCells:
		r.Cells = join(r.Cells[:e.Sub], r.Cells[e.Sub+e.Count:])
	case api.EditFormatRow:
		r.Head.Props = naiveSet(r.Head.Props, e)
	case api.EditFormatCell:
		r.Cells[e.Sub].Head.Props = naiveSet(r.Cells[e.Sub].Head.Props, e)
	}
	return l
}

// rule says that an error applies under a condition.
type rule struct {
	applies func() bool
	e       api.Errno
}

// firstOf returns the error of the first rule that applies.
func firstOf(rules ...rule) api.Errno {
	for _, r := range rules {
		if r.applies() {
			return r.e
		}
	}
	return api.OK
}

// naiveKey returns the error of the key of an edit for elements of some kinds.
func naiveKey(d api.Document, e api.Edit, kinds ...int) api.Errno {
	styled := func(kind int) bool {
		return slices.ContainsFunc(d.Settings.Styles, func(s api.Style) bool { return s.Id == e.Value && s.Kind == kind })
	}
	listed := slices.ContainsFunc(d.Settings.Lists, func(l api.List) bool { return l.Id == e.Value })
	set := !e.Clear && e.Value != 0
	err := firstOf(
		rule{func() bool {
			return !slices.ContainsFunc(kinds, func(kind int) bool { return property.Fits(kind, e.Key) })
		}, api.ErrKey},
		rule{func() bool { return e.Clear && e.Value != 0 }, api.ErrFormat},
		rule{func() bool { return !e.Clear && property.CheckValue(e.Key, e.Value) != api.OK }, api.ErrValue},
		rule{func() bool { return set && e.Key == api.KeyParaStyle && !styled(api.ParaStyle) }, api.ErrStyle},
		rule{func() bool { return set && e.Key == api.KeyCharStyle && !styled(api.CharStyle) }, api.ErrStyle},
		rule{func() bool { return set && e.Key == api.KeyList && !listed }, api.ErrList},
	)
	return err
}

// naiveHas reports whether a condition holds for the head or for the kind (0 for a row or a cell) of an element in items, at any depth.
func naiveHas(l []api.Item, is func(kind int, h api.Head) bool) bool {
	for _, item := range l {
		if is(item.Kind, item.Head) || naiveHas(item.Flow, is) {
			return true
		}
		for _, r := range item.Rows {
			if is(0, r.Head) {
				return true
			}
			for _, c := range r.Cells {
				if is(0, c.Head) || naiveHas(c.Flow, is) {
					return true
				}
			}
		}
	}
	return false
}
func marked(_ int, h api.Head) bool {
	return h.Marks.Ins != 0 || len(h.Marks.Dels)+len(h.Marks.Layers) > 0
}
func anchored(kind int, _ api.Head) bool { return kind == api.Anchor }

// naiveTableCheck returns the error of the insertion of a table with rows where a table stands.
func naiveTableCheck(d api.Document, id int, rows []api.Row) api.Errno {
	place, _ := document.Place(d, id)
	own := api.MaxId
	for slices.Contains(document.Ids(d), own) || slices.Contains(edit.Ids(api.Edit{Rows: rows}), own) {
		own--
	}
	return document.CheckInsert(d, place.Flow, flow(table(own, rows...)))
}

// naiveCheck returns the error of an edit whose kind is known and that uses the fields of its kind only, in a plain document.
func naiveCheck(d api.Document, e api.Edit) api.Errno {
	switch e.Kind {
	case api.EditFormatEnd:
		return naiveKey(d, e, api.Section)
	case api.EditSettings:
		if err := document.CheckSettings(e.Settings); err != api.OK {
			return err
		}
		d.Settings = e.Settings
		return document.Check(d)
	case api.EditInsertRows, api.EditDeleteRows, api.EditInsertCells, api.EditDeleteCells, api.EditFormatRow, api.EditFormatCell:
		item, found := document.Table(d, e.Flow)
		if !found {
			return api.ErrNotFound
		}
		return naiveCheckRows(d, e, item.Rows)
	}
	l, found := document.Flow(d, e.Flow)
	if !found {
		return api.ErrNotFound
	}
	units := samples.Units(l)
	inPart := func(at int) bool { return e.At <= at && at < e.At+e.Count }
	wrongPlace := rule{func() bool { return e.At < 0 || e.At > len(units) }, api.ErrRange}
	wrongPart := rule{func() bool { return e.Count < 1 || e.At < 0 || e.At+e.Count > len(units) }, api.ErrRange}
	hasMark := rule{func() bool { return naiveHas(e.Items, marked) }, api.ErrMark}
	switch e.Kind {
	case api.EditInsert:
		if err := firstOf(wrongPlace, rule{func() bool { return len(e.Items) == 0 }, api.ErrEmpty}, hasMark, rule{func() bool { return naiveHas(e.Items, anchored) }, api.ErrFlow}); err != api.OK {
			return err
		}
		return document.CheckInsert(d, e.Flow, e.Items)
	case api.EditPutAnchor:
		if err := firstOf(wrongPlace, rule{func() bool { return len(e.Items) != 1 || e.Items[0].Kind != api.Anchor }, api.ErrFormat}, hasMark); err != api.OK {
			return err
		}
		return document.CheckInsert(d, e.Flow, e.Items)
	case api.EditDelete:
		return firstOf(wrongPart)
	case api.EditFormat:
		if err := firstOf(wrongPart); err != api.OK {
			return err
		}
		return naiveKey(d, e, 1, 2, 3, 4, 5, 6, 7, 8)
	case api.EditDropAnchor:
		return firstOf(rule{func() bool { return e.At < 0 || e.At >= len(units) }, api.ErrRange}, rule{func() bool { return units[e.At].Kind != api.Anchor }, api.ErrKind})
	}
	if err := firstOf(wrongPart); err != api.OK {
		return err
	}
	var moved []api.Item
	for at, u := range units {
		if inPart(at) && u.Kind != api.Anchor {
			moved = append(moved, u)
		}
	}
	return naiveCheckMove(d, e, moved)
}

func naiveCheckMove(d api.Document, e api.Edit, moved []api.Item) api.Errno {
	target, found := document.Flow(d, e.To)
	if !found {
		return api.ErrNotFound
	}
	if e.ToAt < 0 || e.ToAt > len(samples.Units(target)) {
		return api.ErrRange
	}
	inside := document.Flows(doc(note(0, moved...)))[2:] // behind the body and the note
	if len(moved) == 0 || e.To == e.Flow && e.At <= e.ToAt && e.ToAt <= e.At+e.Count || slices.Contains(inside, e.To) || naiveHas(moved, anchored) {
		return api.ErrMove
	}
	next := e.Fresh
	renumbered := naiveRenumber(moved, &next)
	for id := e.Fresh; id != next; id++ {
		if id < 1 || id > api.MaxId || slices.Contains(document.Ids(d), id) {
			return api.ErrId
		}
	}
	if err := document.CheckInsert(d, e.To, renumbered); err != api.ErrLimit { // the number of units stays
		return err
	}
	return api.OK
}

func naiveCheckRows(d api.Document, e api.Edit, rows []api.Row) api.Errno {
	noRow := rule{func() bool { return e.At < 0 || e.At >= len(rows) }, api.ErrRange}
	content := func(l []api.Item, empty, tooMany bool) api.Errno {
		return firstOf(rule{func() bool { return empty }, api.ErrEmpty}, rule{func() bool { return naiveHas(l, marked) }, api.ErrMark}, rule{func() bool { return naiveHas(l, anchored) }, api.ErrFlow}, rule{func() bool { return tooMany }, api.ErrLimit})
	}
	switch e.Kind {
	case api.EditInsertRows:
		if e.At < 0 || e.At > len(rows) {
			return api.ErrRange
		}
		if err := content(flow(table(0, e.Rows...)), len(e.Rows) == 0, len(rows)+len(e.Rows) > api.MaxRows); err != api.OK {
			return err
		}
		return naiveTableCheck(d, e.Flow, e.Rows)
	case api.EditDeleteRows:
		return firstOf(rule{func() bool { return e.Count < 1 || e.At < 0 || e.At+e.Count > len(rows) }, api.ErrRange})
	case api.EditFormatRow:
		if err := firstOf(noRow); err != api.OK {
			return err
		}
		return naiveKey(d, e, property.Row)
	}
	if err := firstOf(noRow); err != api.OK {
		return err
	}
	cells := len(rows[e.At].Cells)
	switch e.Kind {
	case api.EditInsertCells:
		if e.Sub < 0 || e.Sub > cells {
			return api.ErrRange
		}
		if err := content(flow(table(0, row(e.Cells...))), len(e.Cells) == 0, cells+len(e.Cells) > api.MaxColumns); err != api.OK {
			return err
		}
		return naiveTableCheck(d, e.Flow, []api.Row{row(e.Cells...)})
	case api.EditDeleteCells:
		return firstOf(rule{func() bool { return e.Count < 1 || e.Sub < 0 || e.Sub+e.Count > cells }, api.ErrRange})
	}
	if e.Sub < 0 || e.Sub >= cells {
		return api.ErrRange
	}
	return naiveKey(d, e, property.Cell)
}
