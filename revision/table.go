package revision

import (
	"cmp"
	"slices"

	"obelus/api"
)

// search returns the index of the revision with an id in a valid table, or the one at which it belongs.
func search(l []api.Rev, id int) (index int, found bool) {
	return slices.BinarySearchFunc(l, id, func(r api.Rev, id int) int { return cmp.Compare(r.Id, id) })
}

// find returns the index of the first revision with an id in any table.
func find(l []api.Rev, id int) (index int, found bool) {
	if Check(l) == api.OK {
		return search(l, id)
	}
	index = slices.IndexFunc(l, func(r api.Rev) bool { return r.Id == id })
	return index, index >= 0
}

// with returns what there is from an author with one more revision.
func (g Group) with(r api.Rev) Group {
	if g.Count == 0 {
		return Group{Author: r.Author, Count: 1, First: r.Time, Last: r.Time}
	}
	return Group{Author: r.Author, Count: g.Count + 1, First: min(g.First, r.Time), Last: max(g.Last, r.Time)}
}
