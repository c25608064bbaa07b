package position

import (
	"slices"

	"obelus/api"
	"obelus/grapheme"
	"obelus/run"
	"obelus/segment"
)

// finders returns for each step the function that finds the borders of a flow in increasing order. It need not find the beginning and the end of the flow.
func finders() map[int]func(l []api.Item) []int {
	return map[int]func(l []api.Item) []int{Unit: units, Cluster: clusters, Word: words, Paragraph: blocks}
}

// borders returns the borders by a step of the flow of a range: at least 0, and in increasing order.
func borders(d api.Document, r api.Range, step int) ([]int, api.Errno) {
	l, e := flowOf(d, r)
	if e != api.OK {
		return nil, e
	}
	find, known := finders()[step]
	if !known {
		return nil, api.ErrKind
	}
	length, _ := run.Len(l)
	return slices.Compact(slices.Concat([]int{0}, find(l), []int{length})), api.OK
}

func units(l []api.Item) []int {
	length, _ := run.Len(l)
	found := make([]int, length)
	for i := range found {
		found[i] = i
	}
	return found
}

func clusters(l []api.Item) []int {
	found, _ := grapheme.Boundaries(run.Text(l))
	return found
}

func words(l []api.Item) []int {
	tokens, _ := segment.Tokens(run.Text(l))
	var found []int
	for _, token := range tokens {
		if token.Kind != segment.Space {
			found = append(found, token.From)
		}
	}
	return found
}

// blocks finds the offsets behind paragraph marks, tables and section marks.
func blocks(l []api.Item) []int {
	var found []int
	at := 0
	for i, item := range l {
		at += unitsOf(l, i)
		switch item.Kind {
		case api.Para, api.Table, api.Section:
			found = append(found, at)
		}
	}
	return found
}

// atLeast returns the index of the least border that is at least an offset, and atMost that of the greatest one that is at most it.
func atLeast(borders []int, offset int) int {
	index, _ := slices.BinarySearch(borders, offset)
	return index
}
func atMost(borders []int, offset int) int {
	index, exact := slices.BinarySearch(borders, offset)
	if exact {
		return index
	}
	return index - 1
}
