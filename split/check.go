package split

import (
	"slices"

	"obelus/api"
	"obelus/document"
	"obelus/revision"
	"obelus/run"
)

func has(d api.Document, rev int) bool {
	_, found := revision.Find(d.Revs, rev)
	return found
}

// within returns the units of a range.
func within(d api.Document, r api.Range) ([]api.Item, api.Errno) {
	l, found := document.Flow(d, r.Flow)
	if !found {
		return nil, api.ErrNotFound
	}
	return run.Slice(l, r.From, r.To)
}

// checkNew returns the error of a revision that a document gets instead of others.
func checkNew(d api.Document, old []int, with api.Rev) api.Errno {
	if e := revision.CheckRev(with); e != api.OK {
		return e
	}
	if has(d, with.Id) && !slices.Contains(old, with.Id) {
		return api.ErrDuplicate
	}
	return api.OK
}

func checkSplit(d api.Document, rev int, r api.Range, next api.Rev) api.Errno {
	inside, outside, e := Count(d, rev, r)
	if e != api.OK {
		return e
	}
	if e := checkNew(d, nil, next); e != api.OK {
		return e
	}
	switch {
	case len(d.Revs) >= api.MaxRevs:
		return api.ErrLimit
	case inside == 0 || outside == 0:
		return api.ErrEmpty
	case tears(d, rev, r):
		return api.ErrMove
	}
	return api.OK
}

// tears reports whether a range has some, but not all elements of a move of a revision.
func tears(d api.Document, rev int, r api.Range) bool {
	part, _ := within(d, r)
	all := moves(whole(d))
	for m, size := range moves(part) {
		if m.rev == rev && size < all[m] {
			return true
		}
	}
	return false
}

func checkCombine(d api.Document, revs []int, into api.Rev) api.Errno {
	if len(revs) == 0 {
		return api.ErrEmpty
	}
	for i, rev := range revs {
		switch {
		case !has(d, rev):
			return api.ErrRevision
		case i > 0 && rev == revs[i-1]:
			return api.ErrDuplicate
		case i > 0 && rev < revs[i-1]:
			return api.ErrOrder
		}
	}
	if e := checkNew(d, revs, into); e != api.OK {
		return e
	}
	c := combined{revs: revs}
	for h := range heads(whole(d)) {
		if !c.fits(h.Marks) {
			return api.ErrMove
		}
	}
	return api.OK
}
