package dependency

import (
	"maps"
	"slices"

	"obelus/api"
	"obelus/document"
	"obelus/mark"
	"obelus/revision"
)

// hasAll reports whether a document has some revisions.
func hasAll(d api.Document, revs []int) bool {
	for _, rev := range revs {
		if _, found := revision.Find(d.Revs, rev); !found {
			return false
		}
	}
	return true
}

// removed reports for each element whether it disappears if a revision is rejected. It looks at the elements themselves, because resolving the whole document for each of its revisions takes seconds.
func removed(all []element, rev int) []bool {
	gone, left := make([]bool, len(all)), make([]int, len(all))
	for i := len(all) - 1; i > 0; i-- {
		gone[i] = all[i].head.Marks.Ins == rev || all[i].isFrame && left[i] == 0
		if !gone[i] {
			left[all[i].in]++
		}
	}
	for i := range all {
		gone[i] = gone[i] || gone[all[i].in]
	}
	return gone
}

// needing returns the revisions that need another one: of all marks by others, rejecting it takes away those that disappear with their elements.
func needing(all []element, rev int) []int {
	found := make(map[int]bool)
	for i, isGone := range removed(all, rev) {
		if !isGone {
			continue
		}
		for _, other := range mark.Revs(all[i].head) {
			found[other] = true
		}
	}
	delete(found, rev)
	return slices.Sorted(maps.Keys(found))
}

// needs returns for each revision those that it needs.
func needs(d api.Document) map[int][]int {
	needed, all := make(map[int][]int), list(d)
	for _, rev := range document.Used(d) {
		for _, other := range needing(all, rev) {
			needed[other] = append(needed[other], rev)
		}
	}
	return needed
}

// closure returns the least set that contains some revisions and, with each revision, those that a function returns for it.
func closure(revs []int, next func(rev int) []int) []int {
	set := make(map[int]bool)
	for work := slices.Clone(revs); len(work) > 0; {
		rev := work[len(work)-1]
		work = work[:len(work)-1]
		if !set[rev] {
			set[rev] = true
			work = append(work, next(rev)...)
		}
	}
	return slices.Sorted(maps.Keys(set))
}
