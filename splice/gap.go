package splice

import (
	"obelus/api"
	"obelus/flows"
	"obelus/run"
)

// gap is where two documents differ: instead of old elements from at (or sub) on, the second one has new ones.
type gap struct{ kind, id, at, sub, old, new int }

func gapOf(s api.Splice) gap {
	k := kinds()[s.Kind]
	return gap{s.Kind, s.Id, s.At, s.Sub, k.size(s.Old), k.size(s.New)}
}

// fill returns the splices that have what two documents have at some gaps.
func fill(a, b api.Document, gaps ...gap) []api.Splice {
	var l []api.Splice
	for _, g := range gaps {
		l = append(l, api.Splice{Kind: g.kind, Id: g.id, At: g.at, Sub: g.sub, Old: g.piece(a, g.old), New: g.piece(b, g.new)})
	}
	return l
}

// piece returns a number of elements of a document, from where the gap is.
func (g gap) piece(d api.Document, count int) api.Piece {
	here, e := open(d, g)
	if e != api.OK {
		return api.Piece{}
	}
	p, _ := kinds()[g.kind].read(here, count)
	return p
}

// flowGap returns the only gap of two flows with the same id, rowsGap that of two tables, and cellsGap that of two rows.
func flowGap(id int, a, b []api.Item) (g gap, differ bool) {
	r := restOf(flows.Units(a), flows.Units(b), itemGap)
	return r.or(gap{kind: api.SpliceItems, id: id, at: r.at, old: r.old, new: r.new})
}

func rowsGap(id int, a, b []api.Row) (g gap, differ bool) {
	r := restOf(a, b, func(at int, x, y api.Row) (gap, bool) {
		if !run.EqualHead(x.Head, y.Head) {
			return gap{}, true
		}
		return cellsGap(id, at, x.Cells, y.Cells)
	})
	return r.or(gap{kind: api.SpliceRows, id: id, at: r.at, old: r.old, new: r.new})
}

func cellsGap(id, row int, a, b []api.Cell) (g gap, differ bool) {
	r := restOf(a, b, cellGap)
	return r.or(gap{kind: api.SpliceCells, id: id, at: row, sub: r.at, old: r.old, new: r.new})
}

// itemGap returns whether two units differ, and the gap in them if they need not be replaced as a whole; cellGap does the same for cells.
func itemGap(_ int, x, y api.Item) (inside gap, differ bool) {
	alike := x.Kind == y.Kind && x.Id == y.Id && x.Code == y.Code && run.EqualHead(x.Head, y.Head)
	switch {
	case alike && x.Kind == api.Note:
		return flowGap(x.Id, x.Flow, y.Flow)
	case alike && x.Kind == api.Table:
		return rowsGap(x.Id, x.Rows, y.Rows)
	}
	return gap{}, !run.EqualItem(x, y)
}

func cellGap(_ int, x, y api.Cell) (inside gap, differ bool) {
	if x.Id != y.Id || !run.EqualHead(x.Head, y.Head) {
		return gap{}, true
	}
	return flowGap(x.Id, x.Flow, y.Flow)
}

// rest is what two lists have between their equal first and last elements: old elements from at on, and new ones. If both are one, inside is the gap in them.
type rest struct {
	at, old, new int
	inside       gap
}

// restOf compares each two elements once at most, so that deep ones are not compared again and again.
func restOf[T any](a, b []T, compare func(at int, x, y T) (inside gap, differ bool)) rest {
	r := rest{}
	for ; r.at < len(a) && r.at < len(b); r.at++ {
		inside, differ := compare(r.at, a[r.at], b[r.at])
		if differ {
			r.inside = inside
			break
		}
	}
	r.old, r.new = len(a)-r.at, len(b)-r.at
	for r.old > 0 && r.new > 0 && r.old+r.new > 2 { // the first ones of both are known to differ
		if _, differ := compare(r.at, a[r.at+r.old-1], b[r.at+r.new-1]); differ {
			break
		}
		r.old--
		r.new--
	}
	if r.old != 1 || r.new != 1 {
		r.inside = gap{}
	}
	return r
}

// or returns the gap inside of the rest, or else the one that is the rest.
func (r rest) or(whole gap) (g gap, differ bool) {
	if r.inside.kind != 0 {
		return r.inside, true
	}
	return whole, r.old+r.new > 0
}
