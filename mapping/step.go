package mapping

import (
	"slices"

	"obelus/api"
	"obelus/document"
	"obelus/splice"
)

// start returns the step of a splice without the flows that it removes or changes.
func start(s api.Splice) Step {
	if s.Kind != api.SpliceItems {
		return Step{Flow: -1}
	}
	old, new := splice.Size(s)
	return Step{Flow: s.Id, At: s.At, Old: old, New: new}
}

// around returns the positions that take the place of those in flows that a splice removes.
func around(d api.Document, s api.Splice, x Step) (left, right api.Pos) {
	if s.Kind == api.SpliceItems {
		return api.Pos{Flow: s.Id, At: s.At}, api.Pos{Flow: s.Id, At: s.At + x.New}
	}
	table, _ := document.Place(d, s.Id)
	return table, api.Pos{Flow: table.Flow, At: table.At + 1}
}

// gone returns how a step removes a flow, and changed how it changes one as a part of what it replaces.
func (x Step) gone(flow int) (Gone, bool) {
	return find(x.Gone, func(g Gone) bool { return g.Flow == flow })
}
func (x Step) changed(flow int) (Kept, bool) {
	return find(x.Kept, func(k Kept) bool { return k.Flow == flow })
}

func find[T any](l []T, is func(T) bool) (found T, has bool) {
	i := slices.IndexFunc(l, is)
	if i < 0 {
		return found, false
	}
	return l[i], true
}

// left returns where an offset in the flow is, and whether the unit before it remains; right looks at the unit behind it.
func (x Step) left(at int) (to int, kept bool) {
	switch {
	case at <= x.At:
		return at, true
	case at <= x.At+x.Old:
		return x.At, false
	}
	return at + x.New - x.Old, true
}
func (x Step) right(at int) (to int, kept bool) {
	switch {
	case at < x.At:
		return at, true
	case at < x.At+x.Old:
		return x.At + x.New, false
	}
	return at + x.New - x.Old, true
}

// place is a position, and whether it was kept.
type place struct {
	api.Pos
	kept bool
}

// fold puts the elements of a list, one after another, together with a state.
func fold[S, T any](l []T, state S, next func(S, T) S) S {
	for _, x := range l {
		state = next(state, x)
	}
	return state
}
