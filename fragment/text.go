package fragment

import (
	"strings"

	"obelus/api"
	"obelus/run"
)

// writer writes the text of items.
type writer struct{ strings.Builder }

func (w *writer) writeFlow(l []api.Item) {
	for _, item := range l {
		switch item.Kind {
		case api.Section:
			w.WriteString("\n")
		case api.Field:
			w.WriteString("{" + item.Text + "}")
		case api.Note:
			w.WriteString("[")
			w.writeFlow(item.Flow)
			w.WriteString("]")
		case api.Table:
			w.writeRows(item.Rows)
		default:
			w.WriteString(run.Text([]api.Item{item}))
		}
	}
}

func (w *writer) writeRows(l []api.Row) {
	for _, row := range l {
		for i, cell := range row.Cells {
			if i > 0 {
				w.WriteString("\t")
			}
			w.writeFlow(cell.Flow)
		}
		w.WriteString("\n")
	}
}

// controls are the characters of the items that are no texts.
const controls = "\n\v\f\t"

// itemsOf returns the items with a text.
func itemsOf(s string) []api.Item {
	var l []api.Item
	for s != "" {
		end := strings.IndexAny(s, controls)
		switch end {
		case -1:
			end = len(s)
			l = append(l, api.Item{Kind: api.Text, Text: s})
		case 0:
			end = 1
			l = append(l, control(s[0]))
		default:
			l = append(l, api.Item{Kind: api.Text, Text: s[:end]})
		}
		s = s[end:]
	}
	return l
}

// control returns the item of a control character.
func control(character byte) api.Item {
	switch character {
	case '\v':
		return api.Item{Kind: api.Break, Code: api.LineBreak}
	case '\f':
		return api.Item{Kind: api.Break, Code: api.PageBreak}
	case '\t':
		return api.Item{Kind: api.Break, Code: api.Tab}
	}
	return api.Item{Kind: api.Para}
}
