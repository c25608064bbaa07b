package fragment

import (
	"slices"

	"obelus/api"
	"obelus/document"
)

// hasAnchor reports whether there is an anchor in items, at any depth.
func hasAnchor(l []api.Item) bool {
	found := false
	rebuild(l, func(item api.Item) bool {
		found = found || item.Kind == api.Anchor
		return true
	}, sameHead, sameId)
	return found
}

// withoutSections returns items with paragraph marks in place of section marks.
func withoutSections(l []api.Item) []api.Item {
	l = slices.Clone(l)
	for i := range l {
		if l[i].Kind == api.Section {
			l[i] = api.Item{Kind: api.Para}
		}
	}
	return l
}

// isNoted reports whether a flow is, or lies in, the flow of a note, and whether there is such a flow. It asks for the error of a note without an id, of which the place is checked before the id.
func isNoted(d api.Document, flow int) (noted, found bool) {
	e := document.CheckInsert(d, flow, []api.Item{{Kind: api.Note, Code: api.Footnote}})
	return e == api.ErrFlow, e != api.ErrNotFound
}
