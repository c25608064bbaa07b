package splice

import (
	"slices"

	"obelus/api"
	"obelus/document"
)

// contradict reports whether a revision has the same id as another one of a document, and differs from it.
func contradict(own, revs []api.Rev) bool {
	known := byId(own)
	return slices.ContainsFunc(revs, func(r api.Rev) bool {
		same, has := known[r.Id]
		return has && same != r
	})
}

// byId returns the first revision with each id.
func byId(tables ...[]api.Rev) map[int]api.Rev {
	known := make(map[int]api.Rev)
	for _, r := range slices.Concat(tables...) {
		if _, has := known[r.Id]; !has {
			known[r.Id] = r
		}
	}
	return known
}

// revsOf returns those revisions of some tables that a document uses. In marks that the head of the last section must not have, they count as used, too, because they are known.
func revsOf(d api.Document, tables ...[]api.Rev) []api.Rev {
	used := document.Used(d)
	if m := d.End.Marks; m.Ins != 0 {
		used = append(used, m.Ins)
	}
	for _, del := range d.End.Marks.Dels {
		used = append(used, del.Rev)
	}
	slices.Sort(used)
	known := byId(tables...)
	var revs []api.Rev
	for _, id := range slices.Compact(used) {
		if r, has := known[id]; has {
			revs = append(revs, r)
		}
	}
	return revs
}
