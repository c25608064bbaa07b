package move_test

import (
	"cmp"
	"fmt"
	"math/rand/v2"
	"slices"

	"obelus/api"
	"obelus/document"
	"obelus/move"
	"obelus/run"
	"obelus/samples"
)

var (
	text, para, section, note, table = samples.Text, samples.Para, samples.Section, samples.Note, samples.Table
	row, cell, flow                  = samples.Row, samples.Cell, samples.Flow
)

func pos(flow, at int) api.Pos          { return api.Pos{Flow: flow, At: at} }
func span(flow, from, to int) api.Range { return api.Range{Flow: flow, From: from, To: to} }

// doc returns the normal form of a document with the revisions 1, 2 and 5.
func doc(l ...api.Item) api.Document {
	return document.Normal(api.Document{Flow: l, Revs: []api.Rev{{Id: 1, Author: "Ann", Time: 5}, {Id: 2, Author: "Bob"}, {Id: 5, Author: "Cyd"}}})
}

// to returns an item at the target of a move, and from one at its source.
func to(item api.Item, rev, number int) api.Item {
	item.Head.Marks.Ins, item.Head.Marks.Move = rev, number
	return item
}
func from(item api.Item, l ...api.Del) api.Item { item.Head.Marks.Dels = l; return item }
func by(rev, number int) api.Del                { return api.Del{Rev: rev, Move: number} }

// show returns a string that is equal for equal values, where nil and empty slices are equal.
func show(v any) string { return fmt.Sprintf("%+v", v) }

func isEmpty(d api.Document) bool { return show(d) == show(api.Document{}) }

// pair is a revision and a number.
type pair struct{ rev, number int }

// pairsOf returns the pairs of a head, those with the number 0 as well.
func pairsOf(h api.Head) []pair {
	all := []pair{{h.Marks.Ins, h.Marks.Move}}
	for _, del := range h.Marks.Dels {
		all = append(all, pair{del.Rev, del.Move})
	}
	return all
}

// headsOf returns the heads of the elements of a flow in document order, and itemsOf those of its items, at any depth.
func headsOf(l []api.Item) (all []api.Head) {
	for _, item := range l {
		all = append(append(all, item.Head), headsOf(item.Flow)...)
		for _, r := range item.Rows {
			all = append(all, r.Head)
			for _, c := range r.Cells {
				all = append(append(all, c.Head), headsOf(c.Flow)...)
			}
		}
	}
	return all
}
func itemsOf(d api.Document) (all []api.Head) {
	for _, id := range document.Flows(d) {
		l, _ := document.Flow(d, id)
		for _, item := range l {
			all = append(all, item.Head)
		}
	}
	return all
}

// unitsOf returns the positions of the units of a document whose heads fulfil a condition, and their characters.
func unitsOf(d api.Document, is func(h api.Head) bool) (all []api.Pos, characters string) {
	for _, id := range document.Flows(d) {
		l, _ := document.Flow(d, id)
		for at, u := range samples.Units(l) {
			if is(u.Head) {
				all = append(all, pos(id, at))
				characters += run.Text(flow(u))
			}
		}
	}
	return all, characters
}

func isTarget(p pair) func(h api.Head) bool {
	return func(h api.Head) bool { return h.Marks.Ins == p.rev && h.Marks.Move == p.number }
}
func isSource(p pair) func(h api.Head) bool {
	return func(h api.Head) bool { return slices.Contains(h.Marks.Dels, api.Del{Rev: p.rev, Move: p.number}) }
}

// naivePairs returns the moves of a document.
func naivePairs(d api.Document) (all []pair) {
	for _, h := range itemsOf(d) {
		for _, p := range pairsOf(h) {
			if p.number > 0 {
				all = append(all, p)
			}
		}
	}
	slices.SortFunc(all, func(a, b pair) int { return cmp.Or(a.rev-b.rev, a.number-b.number) })
	return slices.Compact(all)
}

// joined returns the maximal ranges of units.
func joined(units []api.Pos) (all []api.Range) {
	for i, p := range units {
		if i > 0 && units[i-1] == pos(p.Flow, p.At-1) {
			all[len(all)-1].To++
		} else {
			all = append(all, span(p.Flow, p.At, p.At+1))
		}
	}
	return all
}

func naiveMove(d api.Document, p pair) move.Move {
	sources, _ := unitsOf(d, isSource(p))
	targets, _ := unitsOf(d, isTarget(p))
	return move.Move{Rev: p.rev, Number: p.number, Sources: joined(sources), Targets: joined(targets)}
}

func naiveProblems(d api.Document) (all []move.Problem) {
	for _, p := range naivePairs(d) {
		sources, s := unitsOf(d, isSource(p))
		targets, t := unitsOf(d, isTarget(p))
		switch {
		case len(sources) == 0:
			all = append(all, move.Problem{Rev: p.rev, Number: p.number, Code: move.NoSource})
		case len(targets) == 0:
			all = append(all, move.Problem{Rev: p.rev, Number: p.number, Code: move.NoTarget})
		case s != t:
			all = append(all, move.Problem{Rev: p.rev, Number: p.number, Code: move.Changed})
		}
	}
	return all
}

// naivePartner returns the partner of a unit, and whether its side is that of a source.
func naivePartner(d api.Document, at api.Pos) (partner api.Pos, source, found bool) {
	l, _ := document.Flow(d, at.Flow)
	units := samples.Units(l)
	if at.At < 0 || at.At >= len(units) {
		return pos(0, 0), false, false
	}
	m := units[at.At].Head.Marks
	own, other, of := isTarget, isSource, pair{m.Ins, m.Move}
	for _, del := range m.Dels {
		if of.number == 0 && del.Move != 0 {
			own, other, of, source = isSource, isTarget, pair{del.Rev, del.Move}, true
		}
	}
	if of.number == 0 {
		return pos(0, 0), false, false
	}
	here, _ := unitsOf(d, own(of))
	there, _ := unitsOf(d, other(of))
	if len(here) != len(there) {
		return pos(0, 0), false, false
	}
	return there[slices.Index(here, at)], source, true
}

// withNumbers returns the normal form of a document in which pairs have other numbers.
func withNumbers(d api.Document, number func(p pair) int) api.Document {
	change := func(h *api.Head) {
		h.Marks.Move = number(pair{h.Marks.Ins, h.Marks.Move})
		dels := slices.Clone(h.Marks.Dels)
		for i := range dels {
			dels[i].Move = number(pair{dels[i].Rev, dels[i].Move})
		}
		h.Marks.Dels = dels
	}
	d.Flow = samples.Rewrite(0, d.Flow, func(_ int, units []api.Item) []api.Item {
		for i := range units {
			change(&units[i].Head)
		}
		return units
	}, func(_ int, l []api.Row) []api.Row {
		for i := range l {
			change(&l[i].Head)
			for j := range l[i].Cells {
				change(&l[i].Cells[j].Head)
			}
		}
		return l
	})
	return document.Normal(d)
}

func naiveCanonical(d api.Document) api.Document {
	var order []pair
	for _, h := range headsOf(d.Flow) {
		for _, p := range pairsOf(h) {
			if p.number != 0 && !slices.Contains(order, p) {
				order = append(order, p)
			}
		}
	}
	return withNumbers(d, func(p pair) int {
		count := 0
		for i, other := range order {
			if other.rev == p.rev && i <= slices.Index(order, p) {
				count++
			}
		}
		return count
	})
}

// moved gives random numbers to the marks of a document.
func moved(r *rand.Rand, d api.Document) api.Document {
	d.Flow = samples.Rewrite(0, d.Flow, func(_ int, units []api.Item) []api.Item {
		for i := range units {
			mix(r, &units[i].Head.Marks)
		}
		return units
	}, func(_ int, l []api.Row) []api.Row {
		for i := range l {
			mix(r, &l[i].Head.Marks)
			for j := range l[i].Cells {
				mix(r, &l[i].Cells[j].Head.Marks)
			}
		}
		return l
	})
	return document.Normal(d)
}

func mix(r *rand.Rand, m *api.Marks) {
	numbers := []int{0, 1, 1, 1, 2, 3, 7, api.MaxId}
	if m.Ins != 0 {
		m.Move = numbers[r.IntN(len(numbers))]
	}
	m.Dels = slices.Clone(m.Dels)
	for i := range m.Dels {
		m.Dels[i].Move = numbers[r.IntN(len(numbers))]
	}
}

// many calls a function for many valid documents in normal form.
func many(count int, seed uint64, f func(r *rand.Rand, d api.Document)) {
	r := rand.New(rand.NewPCG(26, seed))
	for i := range count {
		d := document.Normal(samples.Document(r.IntN))
		switch i % 3 {
		case 0:
			d = moved(r, d)
		case 1:
			d = samples.Edited(r.IntN, d, 4)
		}
		f(r, d)
	}
}
