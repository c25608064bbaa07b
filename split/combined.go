package split

import (
	"cmp"
	"maps"
	"slices"

	"obelus/api"
	"obelus/run"
)

// renamed returns the change in which marks by a revision become marks by another one.
func renamed(from, to int) change {
	return func(h api.Head) (out api.Head, remains bool) {
		out = run.CloneHead(h)
		m := &out.Marks
		if m.Ins == from {
			m.Ins = to
		}
		for i := range m.Dels {
			if m.Dels[i].Rev == from {
				m.Dels[i].Rev = to
			}
		}
		for i := range m.Layers {
			if m.Layers[i].Rev == from {
				m.Layers[i].Rev = to
			}
		}
		sortDels(m.Dels)
		return out, true
	}
}

func sortDels(l []api.Del) {
	slices.SortStableFunc(l, func(a, b api.Del) int { return cmp.Compare(a.Rev, b.Rev) })
}

// combined are revisions, in increasing order, that become one; their moves get new numbers.
type combined struct {
	revs    []int
	into    int
	numbers map[move]int
}

func (c combined) has(rev int) bool {
	_, found := slices.BinarySearch(c.revs, rev)
	return found
}

// fits reports whether marks can be combined: those of which several become one, or none, must not be of moves.
func (c combined) fits(m api.Marks) bool {
	count, isMoved := 0, false
	if c.has(m.Ins) {
		count, isMoved = 1, m.Move != 0
	}
	for _, del := range m.Dels {
		if c.has(del.Rev) {
			count, isMoved = count+1, isMoved || del.Move != 0
		}
	}
	return count < 2 || !isMoved
}

// renumbered returns the new numbers of the moves.
func (c combined) renumbered(d api.Document) map[move]int {
	sorted := slices.SortedFunc(maps.Keys(moves(d.Flow)), func(a, b move) int {
		return cmp.Or(cmp.Compare(a.rev, b.rev), cmp.Compare(a.number, b.number))
	})
	numbers := make(map[move]int)
	for _, m := range sorted {
		if c.has(m.rev) {
			numbers[m] = len(numbers) + 1
		}
	}
	return numbers
}

// head returns what becomes of a head, and whether the element remains: what is inserted and deleted by the same revision was never there.
func (c combined) head(h api.Head) (out api.Head, remains bool) {
	isOwn := c.has(h.Marks.Ins)
	if isOwn && slices.ContainsFunc(h.Marks.Dels, func(d api.Del) bool { return c.has(d.Rev) }) {
		return api.Head{}, false
	}
	out = run.CloneHead(h)
	m := &out.Marks
	if isOwn {
		m.Ins, m.Move = c.into, c.numbers[move{m.Ins, m.Move}]
	}
	m.Dels, m.Layers = c.dels(m.Dels), c.layers(m.Layers)
	return out, true
}

// dels returns deletions of which the first one by the revisions stays.
func (c combined) dels(l []api.Del) []api.Del {
	var all []api.Del
	found := false
	for _, del := range l {
		if c.has(del.Rev) {
			if found {
				continue
			}
			found = true
			del = api.Del{Rev: c.into, Move: c.numbers[move{del.Rev, del.Move}]}
		}
		all = append(all, del)
	}
	sortDels(all)
	return all
}

// layers returns layers in which, of neighbours for a key by the revisions, the first one stays.
func (c combined) layers(l []api.Layer) []api.Layer {
	var all []api.Layer
	for i, layer := range l {
		if c.has(layer.Rev) {
			if i > 0 && l[i-1].Key == layer.Key && c.has(l[i-1].Rev) {
				continue
			}
			layer.Rev = c.into
		}
		all = append(all, layer)
	}
	return all
}
