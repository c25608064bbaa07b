package run

import (
	"iter"

	"obelus/api"
	"obelus/codepoint"
)

// place is where an item stands in its flow: its index, and its units, from start on, before end.
type place struct{ index, start, end int }

// places yields the place of each item of a flow; for a text that is not valid UTF-8, an error and a place without units.
func places(l []api.Item) iter.Seq2[place, api.Errno] {
	return func(yield func(place, api.Errno) bool) {
		start := 0
		for i, item := range l {
			count, e := units(item)
			if !yield(place{i, start, start + count}, e) {
				return
			}
			start += count
		}
	}
}

func units(item api.Item) (int, api.Errno) {
	if item.Kind != api.Text {
		return 1, api.OK
	}
	return codepoint.Count(item.Text)
}

// check returns the number of units of a flow, and the error of a range of them.
func check(l []api.Item, from, to int) (length int, e api.Errno) {
	length, e = Len(l)
	if e == api.OK && (from < 0 || to < from || to > length) {
		return 0, api.ErrRange
	}
	return length, e
}

// cut returns the items with the units from from on, before to, of a divisible flow. They share their memory with it.
func cut(l []api.Item, from, to int) []api.Item {
	var part []api.Item
	for p := range places(l) {
		start, end := max(from, p.start), min(to, p.end)
		if start >= end {
			continue
		}
		item := l[p.index]
		if end-start < p.end-p.start {
			item.Text, _ = codepoint.Slice(item.Text, start-p.start, end-p.start)
		}
		part = append(part, item)
	}
	return part
}

// characters returns the characters of the units of an item.
func characters(item api.Item) string {
	switch item.Kind {
	case api.Text:
		return item.Text
	case api.Para:
		return "\n"
	case api.Section:
		return "\x1D"
	case api.Break:
		return breakCharacter(item.Code)
	case api.Field, api.Note, api.Table, api.Anchor:
		return "\uFFFC"
	}
	return "\uFFFD"
}

func breakCharacter(code int) string {
	switch code {
	case api.LineBreak:
		return "\v"
	case api.PageBreak:
		return "\f"
	case api.Tab:
		return "\t"
	}
	return "\uFFFD"
}
