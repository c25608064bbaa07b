package transform

// span is the range of elements that a splice replaces: old ones from at on, by new ones.
type span struct{ at, old, new int }

// index returns where an element is behind the replacement of the span; it is gone if it is replaced.
func (r span) index(at int) (to int, remains bool) {
	switch {
	case at < r.at:
		return at, true
	case at >= r.at+r.old:
		return at - r.old + r.new, true
	}
	return 0, false
}

// over returns where the span begins behind the replacement of another one. Of two insertions at the same place, first says whether this one comes first.
func (r span) over(t span, first bool) (at int, apart bool) {
	switch {
	case r.old == 0 && t.old == 0 && r.at == t.at && !first:
		return r.at + t.new, true
	case r.at+r.old <= t.at:
		return r.at, true
	case r.at >= t.at+t.old:
		return r.at - t.old + t.new, true
	}
	return 0, false
}
