package track

import (
	"iter"
	"slices"

	"obelus/api"
	"obelus/resolve"
)

// units returns which units of a flow are visible, and whether the final view has the flow.
func units(d api.Document, flow int) (visible []bool, found bool) {
	if !slices.Contains(resolve.Shown(d), flow) {
		return nil, false
	}
	visible, e := resolve.Visible(d, flow)
	return visible, e == api.OK
}

// seen yields the numbers of the visible elements, from 0 on, and their places among all elements.
func seen(visible []bool) iter.Seq2[int, int] {
	return func(yield func(number, place int) bool) {
		number := 0
		for place, is := range visible {
			if !is {
				continue
			}
			if !yield(number, place) {
				return
			}
			number++
		}
	}
}

func count(visible []bool) int {
	total := 0
	for range seen(visible) {
		total++
	}
	return total
}

// behind returns the place directly behind the first visible elements, if there are that many.
func behind(visible []bool, first int) int {
	at := 0
	for number, place := range seen(visible) {
		if number >= first {
			break
		}
		at = place + 1
	}
	return at
}

// nth returns the place of the visible element with a number.
func nth(visible []bool, wanted int) (at int, found bool) {
	for number, place := range seen(visible) {
		if number == wanted {
			return place, true
		}
	}
	return 0, false
}

// within returns for each element whether it is one of the visible ones from one number on, before another one.
func within(visible []bool, from, to int) []bool {
	chosen := make([]bool, len(visible))
	for number, place := range seen(visible) {
		chosen[place] = from <= number && number < to
	}
	return chosen
}

// ranges returns the maximal ranges of the chosen units of a flow.
func ranges(flow int, chosen []bool) []api.Range {
	var all []api.Range
	for _, place := range seen(chosen) {
		if last := len(all) - 1; last >= 0 && all[last].To == place {
			all[last].To++
		} else {
			all = append(all, api.Range{Flow: flow, From: place, To: place + 1})
		}
	}
	return all
}
