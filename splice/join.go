package splice

import (
	"slices"

	"obelus/api"
	"obelus/run"
)

// isSequence reports whether splices of a kind replace any number of elements.
func isSequence(kind int) bool {
	return kind == api.SpliceItems || kind == api.SpliceRows || kind == api.SpliceCells
}

// shift returns by how much the elements of a second splice begin behind those of the first one.
func shift(s, t gap) int {
	if s.kind == api.SpliceCells {
		return t.sub - s.sub
	}
	return t.at - s.at
}

// touch reports whether two consecutive splices can be joined.
func touch(s, t gap) bool {
	switch by := shift(s, t); {
	case s.kind != t.kind || s.id != t.id:
		return false
	case s.kind == api.SpliceCells && s.at != t.at:
		return false
	case isSequence(s.kind):
		return -t.old <= by && by <= s.new
	}
	return s.at == t.at && s.sub == t.sub
}

// join returns the join of two splices that touch.
func join(s, t api.Splice) api.Splice {
	if !isSequence(s.Kind) {
		joined := Clone(s)
		joined.New = clonePiece(t.New)
		return joined
	}
	first, second := gapOf(s), gapOf(t)
	by := shift(first, second)
	joined := api.Splice{Kind: s.Kind, Id: s.Id, At: min(s.At, t.At), Sub: min(s.Sub, t.Sub)}
	joined.Old = concat(cut(t.Old, 0, -by), s.Old, cut(t.Old, first.new-by, second.old))
	joined.New = concat(cut(s.New, 0, by), t.New, cut(s.New, by+second.old, first.new))
	return joined
}

// cut returns the elements of a piece from an index on, before another one.
func cut(p api.Piece, from, to int) api.Piece {
	items, _ := run.Slice(p.Items, from, to)
	return api.Piece{Items: items, Rows: between(p.Rows, from, to), Cells: between(p.Cells, from, to)}
}

func between[T any](l []T, from, to int) []T {
	if from < 0 || from >= to || to > len(l) {
		return nil
	}
	return l[from:to]
}

// concat returns the elements of three pieces in normal form.
func concat(a, b, c api.Piece) api.Piece {
	return api.Piece{
		Items: run.Concat(a.Items, b.Items, c.Items),
		Rows:  copies(slices.Concat(a.Rows, b.Rows, c.Rows), run.CloneRow),
		Cells: copies(slices.Concat(a.Cells, b.Cells, c.Cells), run.CloneCell),
	}
}
