package transform

import (
	"obelus/api"
	"obelus/splice"
)

// greatest is the greatest index at which a splice can be transformed.
const greatest = 1 << 40

// place is where a splice is: its At and Sub. Nothing else changes when it is transformed.
type place struct{ at, sub int }

func (p place) inRange() bool {
	return 0 <= p.at && p.at <= greatest && 0 <= p.sub && p.sub <= greatest
}

// change is a splice with what the rules ask for, which is found once for all places to which it comes.
type change struct {
	place
	kind, id          int
	splice            api.Splice // where it was at first
	err               api.Errno  // of the splice alone
	old, new          int        // numbers of elements
	removed, inserted ids
}

func open(s api.Splice) change {
	c := change{place: place{s.At, s.Sub}, kind: s.Kind, id: s.Id, splice: s, err: splice.Check(s), removed: idsOf(s.Old), inserted: idsOf(s.New)}
	c.old, c.new = splice.Size(s)
	return c
}

func openAll(l []api.Splice) []change {
	var all []change
	for _, s := range l {
		all = append(all, open(s))
	}
	return all
}

// splicedAt returns the splice of the change at another place.
func (s *change) splicedAt(p place) api.Splice {
	moved := splice.Clone(s.splice)
	moved.At, moved.Sub = p.at, p.sub
	return moved
}

func splicesOf(l []change) []api.Splice {
	var all []api.Splice
	for i := range l {
		all = append(all, l[i].splicedAt(l[i].place))
	}
	return all
}

// span returns the range of units, rows or cells that the change replaces.
func (s *change) span() span {
	if s.kind == api.SpliceCells {
		return span{s.sub, s.old, s.new}
	}
	return span{s.at, s.old, s.new}
}

// over returns the place of a change behind another one.
func (s *change) over(t *change, first bool) (place, api.Errno) {
	switch {
	case s.err != api.OK:
		return place{}, s.err
	case t.err != api.OK:
		return place{}, t.err
	case !s.inRange() || !t.inRange():
		return place{}, api.ErrRange
	}
	p, agree := s.follow(t, first)
	if !agree {
		return place{}, api.ErrConflict
	}
	return p, api.OK
}

// follow returns the place of a change behind another one, if both do not contradict each other.
func (s *change) follow(t *change, first bool) (p place, agree bool) {
	p = s.place
	switch {
	case s.concernsAll() || t.concernsAll():
		return p, s.kind != t.kind
	case t.removed[s.id] || s.removed[t.id] || s.inserted.meet(t.inserted):
		return p, false
	case s.id != t.id || (s.kind == api.SpliceItems) != (t.kind == api.SpliceItems):
		return p, true
	case s.kind == api.SpliceItems, s.kind == api.SpliceRows && t.kind == api.SpliceRows:
		p.at, agree = s.span().over(t.span(), first)
	case t.kind == api.SpliceRows:
		p.at, agree = t.span().index(s.at)
	case s.kind == api.SpliceRows:
		_, agree = s.span().index(t.at)
	case s.at != t.at:
		return p, true
	default:
		p.sub, agree = s.followInRow(t, first)
	}
	return p, agree
}

// followInRow is follow for two changes of the head or the cells of the same row; it returns the number of the cell.
func (s *change) followInRow(t *change, first bool) (sub int, agree bool) {
	switch {
	case s.kind == api.SpliceRow || t.kind == api.SpliceRow:
		return s.sub, s.kind != t.kind
	case s.kind == api.SpliceCells && t.kind == api.SpliceCells:
		return s.span().over(t.span(), first)
	case t.kind == api.SpliceCells:
		return t.span().index(s.sub)
	case s.kind == api.SpliceCells:
		_, agree = s.span().index(t.sub)
		return s.sub, agree
	}
	return s.sub, s.sub != t.sub
}

// concernsAll reports whether the change is one of the whole document: of its settings or its last section.
func (s *change) concernsAll() bool { return s.kind == api.SpliceSet || s.kind == api.SpliceEnd }

// isIndifferent reports whether a change comes to the same place behind another one, whichever comes first.
func (s *change) isIndifferent(t *change) bool {
	before, e := s.over(t, true)
	behind, _ := s.over(t, false)
	return e == api.OK && before == behind
}

// cross moves two changes of the same document, each over the other one; insertions of the first one come first.
func cross(s, t *change) api.Errno {
	p, e := s.over(t, true)
	if e != api.OK {
		return e
	}
	q, e := t.over(s, false)
	if e != api.OK {
		return e
	}
	s.place, t.place = p, q
	return api.OK
}
