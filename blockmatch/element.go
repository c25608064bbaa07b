package blockmatch

import (
	"slices"
	"strings"

	"obelus/api"
	"obelus/codepoint"
	"obelus/paragraph"
	"obelus/run"
)

// block is a block of a flow: its kind, and its string.
type block struct {
	kind int
	text string
}

// blocksOf returns the blocks of a divisible flow.
func blocksOf(l []api.Item) []block {
	var all []block
	found, _ := paragraph.Blocks(l)
	points := []rune(run.Text(l)) // one for each unit
	tables := slices.DeleteFunc(slices.Clone(l), func(item api.Item) bool { return item.Kind != api.Table })
	for _, b := range found {
		own := block{kind: b.Kind}
		switch {
		case b.Kind == paragraph.Table:
			own.text = stringOfTable(tables[0])
			tables = tables[1:]
		case b.Mark:
			own.text = string(points[b.From : b.To-1])
		default:
			own.text = string(points[b.From:b.To])
		}
		all = append(all, own)
	}
	return all
}

func stringOfTable(table api.Item) string {
	var text strings.Builder
	for _, row := range table.Rows {
		text.WriteString(stringOfRow(row))
	}
	return text.String()
}

func stringOfRow(r api.Row) string {
	var text strings.Builder
	for _, cell := range r.Cells {
		text.WriteString(stringOfCell(cell) + "\n")
	}
	return text.String()
}

func stringOfCell(c api.Cell) string { return run.Text(c.Flow) }

// areDivisible reports whether a flow and all flows in it are divisible, and haveDivisible whether all flows in some rows are.
func areDivisible(l []api.Item) bool {
	for _, item := range l {
		if item.Kind == api.Text && !codepoint.Valid(item.Text) || !areDivisible(item.Flow) || !haveDivisible(item.Rows) {
			return false
		}
	}
	return true
}
func haveDivisible(l []api.Row) bool {
	for _, row := range l {
		if slices.ContainsFunc(row.Cells, func(c api.Cell) bool { return !areDivisible(c.Flow) }) {
			return false
		}
	}
	return true
}
