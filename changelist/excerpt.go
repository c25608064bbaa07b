package changelist

import (
	"strings"

	"obelus/api"
	"obelus/codepoint"
	"obelus/document"
	"obelus/run"
)

// textOf returns the characters of what an entry names, if there is such a thing.
func textOf(d api.Document, e Entry) (string, bool) {
	l, found := document.Flow(d, e.Range.Flow)
	part, err := run.Slice(l, e.Range.From, e.Range.To)
	if !found || err != api.OK {
		return "", false
	}
	if e.Scope == Items {
		return run.Text(part), true
	}
	cells, found := cellsOf(part, e)
	if !found {
		return "", false
	}
	var texts []string
	for _, cell := range cells {
		texts = append(texts, run.Text(cell.Flow))
	}
	return strings.Join(texts, "\t"), true
}

// cellsOf returns the cells of a row, or one cell, of the table that a part of a flow consists of.
func cellsOf(part []api.Item, e Entry) ([]api.Cell, bool) {
	if len(part) != 1 || part[0].Kind != api.Table || !isIndex(e.Row, len(part[0].Rows)) {
		return nil, false
	}
	cells := part[0].Rows[e.Row].Cells
	if e.Scope == Row {
		return cells, true
	}
	if !isIndex(e.Cell, len(cells)) {
		return nil, false
	}
	return cells[e.Cell : e.Cell+1], true
}

func isIndex(i, length int) bool { return 0 <= i && i < length }

// shorten returns the first characters of a text, with an ellipsis if it has more of them.
func shorten(text string, most int) string {
	count, _ := codepoint.Count(text)
	if count <= most {
		return text
	}
	beginning, _ := codepoint.Slice(text, 0, most)
	return beginning + "\u2026"
}
