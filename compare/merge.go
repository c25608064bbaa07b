package compare

import (
	"obelus/alignment"
	"obelus/api"
	"obelus/blockmatch"
)

// merge goes through two lists and returns what functions make of each two elements that match, and of those without a match that are deleted and inserted. Between two matches, what is deleted comes first.
func merge[T any](a, b []T, pairs []alignment.Pair, match func(x, y T) T, remove, insert func(one T) T) []T {
	var merged []T
	i, j := 0, 0
	without := func(toA, toB int) {
		for ; i < toA; i++ {
			merged = append(merged, remove(a[i]))
		}
		for ; j < toB; j++ {
			merged = append(merged, insert(b[j]))
		}
	}
	for _, p := range pairs {
		without(p.A, p.B)
		merged = append(merged, match(a[i], b[j]))
		i++
		j++
	}
	without(len(a), len(b))
	return merged
}

func pairsOf(matches []blockmatch.Match) []alignment.Pair {
	var pairs []alignment.Pair
	for _, m := range matches {
		pairs = append(pairs, alignment.Pair{A: m.A, B: m.B})
	}
	return pairs
}

// onHead returns a function for elements that changes their heads, and onEach one for lists that changes their elements.
func onHead[T any](head func(one *T) *api.Head, change func(h api.Head) api.Head) func(one T) T {
	return func(one T) T {
		h := head(&one)
		*h = change(*h)
		return one
	}
}
func onEach[T any](change func(one T) T) func(l []T) []T {
	return func(l []T) []T {
		var changed []T
		for _, one := range l {
			changed = append(changed, change(one))
		}
		return changed
	}
}

func ofItem(i *api.Item) *api.Head { return &i.Head }
func ofRow(r *api.Row) *api.Head   { return &r.Head }
func ofCell(c *api.Cell) *api.Head { return &c.Head }
