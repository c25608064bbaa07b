package mark

import (
	"cmp"
	"maps"
	"slices"

	"obelus/api"
)

// checkRevs returns the error of the revisions that are accepted, or of those that are rejected.
func checkRevs(l []int) api.Errno {
	for i, rev := range l {
		switch {
		case rev < 1 || rev > api.MaxId:
			return api.ErrRevision
		case i > 0 && rev == l[i-1]:
			return api.ErrDuplicate
		case i > 0 && rev < l[i-1]:
			return api.ErrOrder
		}
	}
	return api.OK
}

// isIn returns a function that reports whether a revision is in an increasing list.
func isIn(l []int) func(rev int) bool {
	return func(rev int) bool {
		_, found := slices.BinarySearchFunc(l, rev, cmp.Compare[int])
		return found
	}
}

// searchDel returns the index of the deletion by a revision, or the one at which it belongs.
func searchDel(l []api.Del, rev int) (index int, found bool) {
	return slices.BinarySearchFunc(l, rev, func(d api.Del, rev int) int { return cmp.Compare(d.Rev, rev) })
}

// unite returns the numbers in some lists, each one once, in increasing order.
func unite(lists ...[]int) []int {
	set := make(map[int]bool)
	for _, l := range lists {
		for _, n := range l {
			set[n] = true
		}
	}
	return slices.Sorted(maps.Keys(set))
}

// revsOf returns the revision of each mark.
func revsOf(m api.Marks) []int {
	var revs []int
	if m.Ins != 0 {
		revs = append(revs, m.Ins)
	}
	for _, del := range m.Dels {
		revs = append(revs, del.Rev)
	}
	for _, layer := range m.Layers {
		revs = append(revs, layer.Rev)
	}
	return revs
}
