package edit

import (
	"slices"

	"obelus/api"
	"obelus/document"
	"obelus/run"
)

func (c change) move() (api.Document, api.Errno) {
	if !isPart(c.At, c.Count, c.units) {
		return api.Document{}, api.ErrRange
	}
	target, found := document.Flow(c.doc, c.To)
	if !found {
		return api.Document{}, api.ErrNotFound
	}
	if length, _ := run.Len(target); !isPlace(c.ToAt, length) {
		return api.Document{}, api.ErrRange
	}
	anchors, moved := c.divide()
	if e := c.checkMove(moved); e != api.OK {
		return api.Document{}, e
	}
	next := c.Fresh
	eachId(moved, func(id *int) {
		*id = next
		next++
	})
	rest := c.replace(c.At, c.At+c.Count, anchors)
	if e := document.CheckInsert(rest, c.To, moved); e != api.OK {
		return api.Document{}, e
	}
	return c.arrive(rest, moved), api.OK
}

// checkMove returns the error of items that are to be moved, without that of the flow to which they come.
func (c change) checkMove(moved []api.Item) api.Errno {
	var inside content
	inside.look(moved)
	flows := document.Flows(api.Document{Flow: moved})[1:] // without the body
	switch {
	case len(moved) == 0, inside.anchored, slices.Contains(flows, c.To):
		return api.ErrMove
	case c.To == c.Flow && c.At <= c.ToAt && c.ToAt <= c.At+c.Count:
		return api.ErrMove
	}
	return c.checkFresh(len(Ids(api.Edit{Items: moved})))
}

// checkFresh returns the error of the new ids of a number of notes, tables and cells.
func (c change) checkFresh(count int) api.Errno {
	taken := document.Ids(c.doc)
	for i := range count {
		id := c.Fresh + i
		if _, used := slices.BinarySearch(taken, id); used || id < 1 || id > api.MaxId {
			return api.ErrId
		}
	}
	return api.OK
}

// arrive returns the document that has the moved items, where the rest is the document without them.
func (c change) arrive(rest api.Document, moved []api.Item) api.Document {
	at := c.ToAt
	if c.To == c.Flow && at > c.At {
		length, _ := run.Len(moved)
		at -= length
	}
	target, _ := document.Flow(rest, c.To)
	l, _ := run.Replace(target, at, at, moved)
	changed, _ := document.SetFlow(rest, c.To, l)
	return changed
}
