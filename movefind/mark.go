package movefind

import (
	"obelus/api"
	"obelus/flows"
	"obelus/run"
)

// rewrite returns the units of a flow with the heads that a function returns for them; the contents of notes and tables are rewritten, too.
func rewrite(flow int, l []api.Item, head func(p api.Pos, h api.Head) api.Head) []api.Item {
	all := flows.Units(l)
	for at := range all {
		item := &all[at]
		item.Head = head(api.Pos{Flow: flow, At: at}, item.Head)
		item.Flow = rewrite(item.Id, item.Flow, head)
		item.Rows = rewriteRows(item.Rows, head)
	}
	return all
}

func rewriteRows(l []api.Row, head func(p api.Pos, h api.Head) api.Head) []api.Row {
	var all []api.Row
	for _, row := range l {
		var cells []api.Cell
		for _, cell := range row.Cells {
			cells = append(cells, api.Cell{Id: cell.Id, Head: cell.Head, Flow: rewrite(cell.Id, cell.Flow, head)})
		}
		all = append(all, api.Row{Head: row.Head, Cells: cells})
	}
	return all
}

// withMove returns a head of which the insertion, or the deletion, by a revision has a move number.
func withMove(h api.Head, rev, number int) api.Head {
	out := run.CloneHead(h)
	if out.Marks.Ins == rev {
		out.Marks.Move = number
	}
	for i := range out.Marks.Dels {
		if out.Marks.Dels[i].Rev == rev {
			out.Marks.Dels[i].Move = number
		}
	}
	return out
}
