package track

import (
	"cmp"
	"slices"

	"obelus/api"
	"obelus/document"
	"obelus/property"
	"obelus/resolve"
	"obelus/revision"
	"obelus/run"
)

// tracker tracks an edit by a revision.
type tracker struct {
	api.Edit
	rev   int
	doc   api.Document // with marks
	after api.Document // the final view behind the edit
}

// kinds returns for each kind of edits the method that returns the document in which the edit is tracked, not always in normal form.
func kinds() map[int]func(t tracker) (api.Document, api.Errno) {
	return map[int]func(t tracker) (api.Document, api.Errno){
		api.EditInsert:      tracker.insert,
		api.EditDelete:      tracker.remove,
		api.EditFormat:      tracker.format,
		api.EditMove:        tracker.move,
		api.EditInsertRows:  tracker.insertRows,
		api.EditDeleteRows:  tracker.deleteRows,
		api.EditInsertCells: tracker.insertCells,
		api.EditDeleteCells: tracker.deleteCells,
		api.EditFormatRow:   tracker.formatRow,
		api.EditFormatCell:  tracker.formatCell,
		api.EditPutAnchor:   tracker.putAnchor,
		api.EditDropAnchor:  tracker.dropAnchor,
		api.EditFormatEnd:   tracker.formatEnd,
		api.EditSettings:    tracker.settings,
	}
}

// checkRev returns the error of a revision that is to change a document.
func checkRev(d api.Document, r api.Rev) api.Errno {
	if e := revision.CheckRev(r); e != api.OK {
		return e
	}
	if own, found := revision.Find(d.Revs, r.Id); found && own != r {
		return api.ErrRevision
	}
	return api.OK
}

// checkIds returns the error of the ids that an edit of the final view has introduced there: the document can have them where they are not visible.
func checkIds(d, final, after api.Document) api.Errno {
	hidden := slices.DeleteFunc(document.Ids(d), isIn(document.Ids(final)))
	if slices.ContainsFunc(hidden, isIn(document.Ids(after))) {
		return api.ErrId
	}
	return api.OK
}

// isIn returns a function that reports whether a number is in an increasing list.
func isIn(l []int) func(n int) bool {
	return func(n int) bool {
		_, found := slices.BinarySearch(l, n)
		return found
	}
}

// finish returns the normal form of a document that a revision has changed, or its error.
func finish(d api.Document, r api.Rev) (api.Document, api.Errno) {
	at, found := slices.BinarySearchFunc(d.Revs, r.Id, func(own api.Rev, id int) int { return cmp.Compare(own.Id, id) })
	if !found {
		d.Revs = slices.Insert(slices.Clone(d.Revs), at, r)
	}
	d = document.Normal(d)
	if e := document.Check(d); e != api.OK {
		return api.Document{}, e
	}
	return d, api.OK
}

// put returns the document in which items stand at the located position of an offset in a flow.
func (t tracker) put(flow, at int, l []api.Item) api.Document {
	items, _ := document.Flow(t.doc, flow)
	visible, _ := resolve.Visible(t.doc, flow)
	place := behind(visible, at)
	with, _ := run.Replace(items, place, place, l)
	changed, _ := document.SetFlow(t.doc, flow, with)
	return changed
}

// items returns the items of the flow, divided before and behind the units of the edit, and which of them belong to these units and are visible.
func (t tracker) items() (l []api.Item, chosen []bool) {
	all, _ := document.Flow(t.doc, t.Flow)
	visible, _ := resolve.Visible(t.doc, t.Flow)
	from, to := behind(visible, t.At), behind(visible, t.At+t.Count)
	before, rest, _ := run.Split(all, from)
	part, after, _ := run.Split(rest, to-from)
	l = slices.Concat(before, part, after)
	units, at := within(visible, t.At, t.At+t.Count), 0
	for i := range l {
		chosen = append(chosen, units[at])
		length, _ := run.Len(l[i : i+1])
		at += length
	}
	return l, chosen
}

// changeUnits returns the document in which the heads of those units of the edit are changed that fulfil a condition.
func (t tracker) changeUnits(touches func(item api.Item) bool, c change) (api.Document, api.Errno) {
	l, chosen := t.items()
	for i, item := range l {
		chosen[i] = chosen[i] && touches(item)
	}
	left, e := rewrite(l, chosen, c, ofItem)
	changed, _ := document.SetFlow(t.doc, t.Flow, left)
	return changed, e
}

func isNoAnchor(item api.Item) bool { return item.Kind != api.Anchor }

func (t tracker) insert() (api.Document, api.Errno) {
	return t.put(t.Flow, t.At, inserted(t.Items, t.rev, ofItem)), api.OK
}

func (t tracker) remove() (api.Document, api.Errno) {
	return t.changeUnits(isNoAnchor, t.deletion(0))
}

func (t tracker) format() (api.Document, api.Errno) {
	return t.changeUnits(func(item api.Item) bool { return property.Fits(item.Kind, t.Key) }, t.formatting())
}

func (t tracker) formatEnd() (api.Document, api.Errno) {
	end, e := rewrite([]api.Head{t.doc.End}, []bool{true}, t.formatting(), func(h *api.Head) *api.Head { return h })
	t.doc.End = end[0]
	return t.doc, e
}

func (t tracker) putAnchor() (api.Document, api.Errno) {
	return t.put(t.Flow, t.At, t.Items), api.OK
}

func (t tracker) dropAnchor() (api.Document, api.Errno) {
	items, _ := document.Flow(t.doc, t.Flow)
	visible, _ := resolve.Visible(t.doc, t.Flow)
	place, _ := nth(visible, t.At)
	without, _ := run.Replace(items, place, place+1, nil)
	changed, _ := document.SetFlow(t.doc, t.Flow, without)
	return changed, api.OK
}

func (t tracker) settings() (api.Document, api.Errno) {
	t.doc.Settings = t.Settings
	return t.doc, document.Check(t.doc)
}
