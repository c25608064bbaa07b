package run

import (
	"slices"

	"obelus/api"
)

// equalLists reports whether two lists have equal elements in the same order.
func equalLists[T any](a, b []T, equal func(a, b T) bool) bool {
	if len(a) != len(b) {
		return false
	}
	for i := range a {
		if !equal(a[i], b[i]) {
			return false
		}
	}
	return true
}

func same[T comparable](a, b T) bool { return a == b }

// copyList returns the copies of the elements of a list.
func copyList[T any](l []T, copied func(T) T) []T {
	copies := slices.Clone(l)
	for i := range copies {
		copies[i] = copied(copies[i])
	}
	return copies
}

func cloneItem(item api.Item) api.Item {
	item.Head = CloneHead(item.Head)
	item.Flow = Clone(item.Flow)
	item.Rows = copyList(item.Rows, CloneRow)
	return item
}
