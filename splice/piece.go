package splice

import (
	"slices"

	"obelus/api"
	"obelus/document"
	"obelus/run"
)

// checkPiece returns the error of a piece that cannot be divided, or is not in normal form.
func checkPiece(p api.Piece) api.Errno {
	if _, e := run.Len(p.Items); e != api.OK {
		return e
	}
	if !run.IsNormal(p.Items) || !areNormal(p.Cells) || slices.ContainsFunc(p.Rows, func(r api.Row) bool { return !hasCells(r) || !areNormal(r.Cells) }) {
		return api.ErrFormat
	}
	return api.OK
}

func areNormal(l []api.Cell) bool {
	return !slices.ContainsFunc(l, func(c api.Cell) bool { return !run.IsNormal(c.Flow) })
}

func hasCells(r api.Row) bool { return len(r.Cells) > 0 }

func isEmpty(s api.Splice) bool { return equalPieces(s.Old, s.New) }

func equalPieces(a, b api.Piece) bool {
	return run.Equal(a.Items, b.Items) && slices.EqualFunc(a.Rows, b.Rows, run.EqualRow) && slices.EqualFunc(a.Cells, b.Cells, run.EqualCell) &&
		run.EqualHead(a.Head, b.Head) && equalSettings(a.Settings, b.Settings)
}

func equalSettings(a, b api.Settings) bool {
	return document.Equal(api.Document{Settings: a}, api.Document{Settings: b})
}

func clonePiece(p api.Piece) api.Piece {
	return api.Piece{
		Items: run.Clone(p.Items), Rows: copies(p.Rows, run.CloneRow), Cells: copies(p.Cells, run.CloneCell),
		Head: run.CloneHead(p.Head), Settings: document.Clone(api.Document{Settings: p.Settings}).Settings,
	}
}

// copies returns what a function makes of the elements of a list.
func copies[T any](l []T, copied func(T) T) []T {
	all := slices.Clone(l)
	for i := range all {
		all[i] = copied(all[i])
	}
	return all
}
