package dependency

import (
	"cmp"
	"maps"
	"slices"
)

// forest is a union-find structure: it leads from each revision towards the one that stands for its class.
type forest map[int]int

// find returns the revision that stands for the class of a revision, and lets the whole way to it lead there directly.
func (f forest) find(rev int) int {
	root := rev
	for f[root] != root {
		root = f[root]
	}
	for rev != root {
		rev, f[rev] = f[rev], root
	}
	return root
}

// join unites the classes of a revision and another one, if there is another one.
func (f forest) join(rev, other int) {
	if f[rev] == 0 {
		f[rev] = rev
	}
	if other != 0 {
		f[f.find(rev)] = f.find(other)
	}
}

// classes returns the classes, each in increasing order, by their first revisions.
func (f forest) classes() [][]int {
	found := make(map[int][]int)
	for _, rev := range slices.Sorted(maps.Keys(f)) {
		root := f.find(rev)
		found[root] = append(found[root], rev)
	}
	return slices.SortedFunc(maps.Values(found), func(a, b []int) int { return cmp.Compare(a[0], b[0]) })
}
