package track

import (
	"slices"

	"obelus/api"
	"obelus/document"
	"obelus/mark"
	"obelus/run"
)

func (t tracker) move() (api.Document, api.Errno) {
	number := Move(t.doc, t.rev)
	copies := t.copies(number)
	t.doc = t.put(t.To, t.ToAt, copies)
	if t.To == t.Flow && t.ToAt <= t.At {
		length, _ := run.Len(copies)
		t.At += length
	}
	return t.changeUnits(isNoAnchor, t.deletion(number))
}

// copies returns what stands at the target of a move with a number. What the revision itself has inserted is not marked as moved.
func (t tracker) copies(number int) []api.Item {
	sources := t.sources()
	filled := t.filled(sources)
	var all []api.Item
	for _, source := range sources {
		item := source
		if isFilled(source) && len(filled) > 0 {
			item, filled = filled[0], filled[1:]
		}
		move := number
		if source.Head.Marks.Ins == t.rev {
			move = 0
		}
		item.Head = mark.Insert(mark.Plain(source.Head), t.rev, move)
		all = append(all, item)
	}
	return all
}

// sources returns the visible items of the edit that are moved.
func (t tracker) sources() []api.Item {
	l, chosen := t.items()
	var all []api.Item
	for i, item := range l {
		if chosen[i] && isNoAnchor(item) {
			all = append(all, item)
		}
	}
	return all
}

// isFilled reports whether an item has ids and contains something, which the final view can have in another form.
func isFilled(item api.Item) bool { return item.Kind == api.Note || item.Kind == api.Table }

// filled returns the moved notes and tables as they are behind the edit of the final view, with their new ids.
func (t tracker) filled(sources []api.Item) []api.Item {
	length, _ := run.Len(sources)
	at := t.ToAt
	if t.To == t.Flow && at > t.At {
		at -= length
	}
	target, _ := document.Flow(t.after, t.To)
	moved, _ := run.Slice(target, at, at+length)
	return slices.DeleteFunc(moved, func(item api.Item) bool { return !isFilled(item) })
}
