package document

import (
	"obelus/api"
	"obelus/property"
)

// tables are the tables of a document to which heads refer.
type tables struct {
	styles map[int]int // the kinds of the styles
	lists  map[int]bool
	revs   map[int]bool
}

func tablesOf(d api.Document) tables {
	t := tables{make(map[int]int), make(map[int]bool), make(map[int]bool)}
	for _, style := range d.Settings.Styles {
		t.styles[style.Id] = style.Kind
	}
	for _, list := range d.Settings.Lists {
		t.lists[list.Id] = true
	}
	for _, r := range d.Revs {
		t.revs[r.Id] = true
	}
	return t
}

// checkHead returns the error of the head of an element of a kind.
func (t tables) checkHead(kind int, h api.Head) api.Errno {
	if e := property.Check(kind, h.Props); e != api.OK {
		return e
	}
	for _, p := range h.Props {
		if e := t.checkLink(p.Key, p.Value); e != api.OK {
			return e
		}
	}
	if e := t.checkInsertion(h.Marks); e != api.OK {
		return e
	}
	if e := t.checkDels(h.Marks.Dels); e != api.OK {
		return e
	}
	return t.checkLayers(kind, h.Marks.Layers)
}

// checkEnd returns the error of the head of the last section.
func (t tables) checkEnd(h api.Head) api.Errno {
	if e := t.checkHead(api.Section, h); e != api.OK {
		return e
	}
	if h.Marks.Ins != 0 || len(h.Marks.Dels) > 0 { // there is no move without an insertion
		return api.ErrMark
	}
	return api.OK
}

// checkLink returns the error of the value of a key that names a style or a list.
func (t tables) checkLink(key, value int) api.Errno {
	switch {
	case value == 0:
		return api.OK
	case key == api.KeyParaStyle && t.styles[value] != api.ParaStyle:
		return api.ErrStyle
	case key == api.KeyCharStyle && t.styles[value] != api.CharStyle:
		return api.ErrStyle
	case key == api.KeyList && !t.lists[value]:
		return api.ErrList
	}
	return api.OK
}

func isMove(number int) bool { return number >= 0 && number <= api.MaxId }

func (t tables) checkInsertion(m api.Marks) api.Errno {
	switch {
	case m.Ins != 0 && !t.revs[m.Ins]:
		return api.ErrRevision
	case !isMove(m.Move) || m.Move != 0 && m.Ins == 0:
		return api.ErrMark
	}
	return api.OK
}

func (t tables) checkDels(l []api.Del) api.Errno {
	if len(l) > api.MaxDels {
		return api.ErrLimit
	}
	for i, del := range l {
		switch {
		case !t.revs[del.Rev]:
			return api.ErrRevision
		case i > 0 && del.Rev <= l[i-1].Rev:
			return api.ErrOrder
		case !isMove(del.Move):
			return api.ErrMark
		}
	}
	return api.OK
}

func (t tables) checkLayers(kind int, l []api.Layer) api.Errno {
	if len(l) > api.MaxLayers {
		return api.ErrLimit
	}
	for i, layer := range l {
		switch {
		case !t.revs[layer.Rev]:
			return api.ErrRevision
		case !property.Fits(kind, layer.Key):
			return api.ErrKey
		case i > 0 && layer.Key < l[i-1].Key:
			return api.ErrOrder
		}
		if e := t.checkBefore(layer); e != api.OK {
			return e
		}
	}
	return api.OK
}

// checkBefore returns the error of the value that a layer keeps.
func (t tables) checkBefore(l api.Layer) api.Errno {
	if !l.Had {
		if l.Before != 0 {
			return api.ErrMark
		}
		return api.OK
	}
	if e := property.CheckValue(l.Key, l.Before); e != api.OK {
		return e
	}
	return t.checkLink(l.Key, l.Before)
}
