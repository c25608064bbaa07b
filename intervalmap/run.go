package intervalmap

import (
	"cmp"
	"iter"
	"slices"

	"obelus/api"
)

// compareFrom says where the beginning of the run lies from an offset, and compareTo where its end lies.
func (r Run) compareFrom(offset int) int { return cmp.Compare(r.From, offset) }
func (r Run) compareTo(offset int) int   { return cmp.Compare(r.To, offset) }

// check returns the error of a method that takes a range.
func (m *Map) check(from, to int) api.Errno {
	switch {
	case m == nil:
		return api.ErrArgument
	case from < 0 || to < from || to > m.Len():
		return api.ErrRange
	}
	return api.OK
}

// runAt returns the index of the run that has an offset, or the number of runs if the offset is behind all of them.
func (m *Map) runAt(offset int) int {
	i, found := slices.BinarySearchFunc(m.runs, offset, Run.compareTo)
	if found {
		i++ // that run ends at the offset, and the next one begins there
	}
	return i
}

// within yields the parts of the runs that lie in a range, in order.
func (m *Map) within(from, to int) iter.Seq[Run] {
	return func(yield func(Run) bool) {
		for _, r := range m.runs[m.runAt(from):] {
			part := Run{max(r.From, from), min(r.To, to), r.Value}
			if part.From >= part.To || !yield(part) {
				return
			}
		}
	}
}

// replace puts runs in the place of a range, and moves what stands behind it by shift.
func (m *Map) replace(from, to, shift int, runs []Run) {
	// The runs that touch the range from outside are replaced, too: they may have the same values as their new neighbours.
	first, _ := slices.BinarySearchFunc(m.runs, from, Run.compareTo)
	last, _ := slices.BinarySearchFunc(m.runs, to+1, Run.compareFrom)
	old := m.runs[first:last]
	var joined []Run
	for _, r := range old {
		joined = appendRun(joined, Run{r.From, min(r.To, from), r.Value})
	}
	for _, r := range runs {
		joined = appendRun(joined, r)
	}
	for _, r := range old {
		joined = appendRun(joined, Run{max(r.From, to) + shift, r.To + shift, r.Value})
	}
	behind := m.runs[last:]
	for i := range behind {
		behind[i].From += shift
		behind[i].To += shift
	}
	m.runs = slices.Replace(m.runs, first, last, joined...)
}

// appendRun appends a range that follows the last run; it is left out if it is empty.
func appendRun(runs []Run, r Run) []Run {
	last := len(runs) - 1
	switch {
	case r.From >= r.To:
		return runs
	case last >= 0 && runs[last].Value == r.Value:
		runs[last].To = r.To
		return runs
	}
	return append(runs, r)
}
