package mark_test

import (
	"fmt"
	"math"
	"math/rand/v2"
	"slices"

	"obelus/api"
	"obelus/samples"
)

func prop(key, value int) api.Prop { return api.Prop{Key: key, Value: value} }

// layer returns a layer from a value, and unset one from a property that is not set.
func layer(rev, key, value int) api.Layer {
	return api.Layer{Rev: rev, Key: key, Before: value, Had: true}
}
func unset(rev, key int) api.Layer { return api.Layer{Rev: rev, Key: key} }

// head returns a head with a property and marks.
func head(p api.Prop, m api.Marks) api.Head { return api.Head{Props: []api.Prop{p}, Marks: m} }

// dels returns a number of deletions by the revisions from 1 on.
func dels(count int) (l []api.Del) {
	for rev := range count {
		l = append(l, api.Del{Rev: rev + 1})
	}
	return l
}

// show returns a string that is equal for equal values, where nil and empty slices are equal.
func show(v any) string { return fmt.Sprintf("%+v", v) }

// full shows a head together with what stands behind the ends of its lists.
func full(h api.Head) string {
	m := h.Marks
	return show(h) + show(h.Props[:cap(h.Props)]) + show(m.Dels[:cap(m.Dels)]) + show(m.Layers[:cap(m.Layers)])
}

// source makes heads and decisions.
type source struct{ *rand.Rand }

func newSource(seed uint64) source { return source{rand.New(rand.NewPCG(23, seed))} }

// revs are some revisions in increasing order; those that are negative or 0 occur in no valid decision.
func revs() []int { return []int{-7, 0, 1, 2, 3, 9, api.MaxId, math.MaxInt} }

// few are revisions that occur in decisions.
func few() []int { return []int{1, 2, 3, 9} }

func (s source) rev() int {
	list := few()
	if s.IntN(8) == 0 {
		list = revs()
	}
	return list[s.IntN(len(list))]
}

// keys are some keys, known ones and others, in increasing order.
func keys() []int { return []int{math.MinInt, 0, api.KeyBold, api.KeySize, 21, 300, math.MaxInt} }

func (s source) value() int { return []int{0, 1, 1, 2, -3}[s.IntN(5)] }

// head makes an ordered head, in which keys have at most a number of layers.
func (s source) head(most int) api.Head {
	h := api.Head{Props: make([]api.Prop, 0, 8)}
	m := &h.Marks
	if s.IntN(2) == 0 {
		m.Ins = s.rev()
	}
	if m.Ins != 0 {
		m.Move = s.IntN(4) - 1
	}
	m.Dels, m.Layers = make([]api.Del, 0, 8), make([]api.Layer, 0, 8)
	often := 3 + s.IntN(10)
	for _, rev := range revs() {
		if s.IntN(often) == 0 {
			m.Dels = append(m.Dels, api.Del{Rev: rev, Move: s.IntN(4) - 1})
		}
	}
	for _, key := range keys() {
		if s.IntN(2) == 0 {
			h.Props = append(h.Props, prop(key, s.value()))
		}
		for range s.IntN(2) * s.IntN(most+1) {
			l := unset(s.rev(), key)
			if s.IntN(3) > 0 {
				l.Before, l.Had = s.value(), true
			}
			m.Layers = append(m.Layers, l)
		}
	}
	return h
}

// wild makes a head that is not ordered.
func (s source) wild() api.Head {
	h := s.head(4)
	m := &h.Marks
	s.Shuffle(len(h.Props), func(i, j int) { h.Props[i], h.Props[j] = h.Props[j], h.Props[i] })
	s.Shuffle(len(m.Dels), func(i, j int) { m.Dels[i], m.Dels[j] = m.Dels[j], m.Dels[i] })
	s.Shuffle(len(m.Layers), func(i, j int) { m.Layers[i], m.Layers[j] = m.Layers[j], m.Layers[i] })
	for i := range m.Layers {
		m.Layers[i].Before = s.value()
	}
	h.Props = append(h.Props, h.Props...)
	m.Move = s.value()
	return h
}

func (s source) decision() api.Decision {
	return samples.Decision(s.IntN, append(few(), api.MaxId))
}

// isOrdered reports whether a head is what the chapter calls ordered.
func isOrdered(h api.Head) bool {
	for i := 1; i < len(h.Props); i++ {
		if h.Props[i].Key <= h.Props[i-1].Key {
			return false
		}
	}
	m := h.Marks
	for i := 1; i < len(m.Dels); i++ {
		if m.Dels[i].Rev <= m.Dels[i-1].Rev {
			return false
		}
	}
	for i, l := range m.Layers {
		if i > 0 && l.Key < m.Layers[i-1].Key || !l.Had && l.Before != 0 {
			return false
		}
	}
	return m.Move == 0 || m.Ins != 0
}

// state is a state of a key.
type state struct {
	value int
	has   bool
}

// history is the states of a key, and the revisions of the layers between them.
type history struct {
	states []state
	revs   []int
}

func historyOf(h api.Head, key int) (all history) {
	for _, l := range h.Marks.Layers {
		if l.Key == key {
			all.states = append(all.states, state{l.Before, l.Had})
			all.revs = append(all.revs, l.Rev)
		}
	}
	for _, p := range h.Props {
		if p.Key == key {
			all.states = append(all.states, state{p.Value, true})
		}
	}
	if len(all.states) == len(all.revs) {
		all.states = append(all.states, state{})
	}
	return all
}

// keysOf returns the keys that occur in a head, and some others, in increasing order.
func keysOf(h api.Head) []int {
	all := append(keys(), -2, api.KeyCharStyle, api.KeyFont, 22, 23)
	for _, p := range h.Props {
		all = append(all, p.Key)
	}
	for _, l := range h.Marks.Layers {
		all = append(all, l.Key)
	}
	slices.Sort(all)
	return slices.Compact(all)
}

// rewritten returns a head in which the history of each key is what a function makes of it.
func rewritten(h api.Head, f func(key int, all history) history) api.Head {
	out := api.Head{Marks: api.Marks{Ins: h.Marks.Ins, Move: h.Marks.Move, Dels: slices.Clone(h.Marks.Dels)}}
	for _, key := range keysOf(h) {
		all := f(key, historyOf(h, key))
		for i, rev := range all.revs {
			out.Marks.Layers = append(out.Marks.Layers, api.Layer{Rev: rev, Key: key, Before: all.states[i].value, Had: all.states[i].has})
		}
		if last := all.states[len(all.revs)]; last.has {
			out.Props = append(out.Props, prop(key, last.value))
		}
	}
	return out
}

// naiveDecide decides by the words of the chapter; the revisions may be any.
func naiveDecide(h api.Head, c api.Decision) (api.Head, bool) {
	if h.Marks.Ins != 0 && slices.Contains(c.Reject, h.Marks.Ins) {
		return api.Head{}, false
	}
	for _, del := range h.Marks.Dels {
		if slices.Contains(c.Accept, del.Rev) {
			return api.Head{}, false
		}
	}
	out := rewritten(h, func(_ int, all history) history {
		highest := 0
		for i, rev := range all.revs {
			if slices.Contains(c.Accept, rev) {
				highest = i + 1
			}
		}
		all.states, all.revs = all.states[highest:], all.revs[highest:]
		for i := len(all.revs) - 1; i >= 0; i-- {
			if slices.Contains(c.Reject, all.revs[i]) {
				all.revs = slices.Delete(all.revs, i, i+1)
				all.states = slices.Delete(all.states, i+1, i+2)
			}
		}
		return all
	})
	if slices.Contains(c.Accept, out.Marks.Ins) {
		out.Marks.Ins, out.Marks.Move = 0, 0
	}
	out.Marks.Dels = slices.DeleteFunc(out.Marks.Dels, func(d api.Del) bool { return slices.Contains(c.Reject, d.Rev) })
	return out, true
}

// naiveSet follows the rules of the chapter.
func naiveSet(h api.Head, rev int, p api.Prop, clear bool) (out api.Head, e api.Errno) {
	to := state{p.Value, true}
	if clear {
		to = state{}
	}
	if !slices.Contains(keysOf(h), p.Key) {
		panic("the key is not in the test's list")
	}
	out = rewritten(h, func(key int, all history) history {
		top := len(all.revs)
		switch {
		case key != p.Key || all.states[top] == to:
		case rev == 0 || h.Marks.Ins == rev && top == 0:
			all.states[top] = to
		case top > 0 && all.revs[top-1] == rev:
			all.states[top] = to
			if all.states[top-1] == to {
				all.states, all.revs = all.states[:top], all.revs[:top-1]
			}
		default:
			all.states, all.revs = append(all.states, to), append(all.revs, rev)
		}
		return all
	})
	if len(out.Marks.Layers) > max(64, len(h.Marks.Layers)) {
		return api.Head{}, api.ErrLimit
	}
	return out, api.OK
}

// naiveRevs returns the revisions in the marks of a head.
func naiveRevs(h api.Head) (all []int) {
	for _, l := range h.Marks.Layers {
		all = append(all, l.Rev)
	}
	for _, del := range h.Marks.Dels {
		all = append(all, del.Rev)
	}
	if h.Marks.Ins != 0 {
		all = append(all, h.Marks.Ins)
	}
	slices.Sort(all)
	return slices.Compact(all)
}

// naiveCheck returns the error of a decision.
func naiveCheck(c api.Decision) api.Errno {
	for _, l := range [][]int{c.Accept, c.Reject} {
		before := 0
		for i, rev := range l {
			switch {
			case rev <= 0 || rev > 1<<30:
				return api.ErrRevision
			case i > 0 && rev == before:
				return api.ErrDuplicate
			case rev < before:
				return api.ErrOrder
			}
			before = rev
		}
	}
	for _, rev := range c.Accept {
		if slices.Contains(c.Reject, rev) {
			return api.ErrConflict
		}
	}
	return api.OK
}

// allDecisions returns the valid decisions about some revisions.
func allDecisions(list ...int) []api.Decision {
	all := []api.Decision{{}}
	for _, rev := range list {
		for _, c := range all {
			all = append(all, api.Decision{Accept: append(slices.Clone(c.Accept), rev), Reject: c.Reject}, api.Decision{Accept: c.Accept, Reject: append(slices.Clone(c.Reject), rev)})
		}
	}
	return all
}
