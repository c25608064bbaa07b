package edit_test

import (
	"math"
	"slices"
	"strings"
	"testing"

	"obelus/api"
	"obelus/edit"
	"obelus/samples"
)

// chapter is the table of the chapter: the constants of the kinds with their words and fields.
const chapter = `
| EditInsert | insert | Flow, At, Items |
| EditDelete | delete | Flow, At, Count |
| EditFormat | format | Flow, At, Count, Key, Value, Clear |
| EditMove | move | Flow, At, Count, To, ToAt, Fresh |
| EditInsertRows | insert-rows | Flow, At, Rows |
| EditDeleteRows | delete-rows | Flow, At, Count |
| EditInsertCells | insert-cells | Flow, At, Sub, Cells |
| EditDeleteCells | delete-cells | Flow, At, Sub, Count |
| EditFormatRow | format-row | Flow, At, Key, Value, Clear |
| EditFormatCell | format-cell | Flow, At, Sub, Key, Value, Clear |
| EditPutAnchor | put-anchor | Flow, At, Items |
| EditDropAnchor | drop-anchor | Flow, At |
| EditFormatEnd | format-end | Key, Value, Clear |
| EditSettings | settings | Settings |
`

// line is a line of the chapter's table; the kinds are numbered in its order.
type line struct {
	kind   int
	word   string
	fields []string
}

func lines() []line {
	var all []line
	for _, s := range strings.Split(strings.TrimSpace(chapter), "\n") {
		cells := strings.Split(strings.Trim(s, "| "), " | ")
		all = append(all, line{len(all) + 1, cells[1], strings.Split(cells[2], ", ")})
	}
	return all
}

// base returns a document with elements of all kinds, and with styles of both kinds and a list.
func base() api.Document {
	return api.Document{
		Flow: flow(text("abcd"), comment(1), para(prop(api.KeyParaStyle, 1)), note(1, text("n")), table(10, row(cell(11, text("x")), cell(12)), row(cell(13))), section(), text("end"), note(2, text("m"))),
		Settings: api.Settings{
			Styles: []api.Style{{Id: 1, Kind: api.ParaStyle, Name: "Normal"}, {Id: 2, Kind: api.CharStyle, Name: "Code"}},
			Lists:  []api.List{{Id: 3, Levels: []api.Level{{Format: api.Decimal, Template: "%1"}}}},
		},
	}
}

// possible returns an edit of each kind that is possible in the base document.
func possible() map[int]api.Edit {
	settings := base().Settings
	settings.Vars = []api.Var{{Name: "v"}}
	edits := make(map[int]api.Edit)
	for i, e := range []api.Edit{
		{At: 1, Items: flow(text("new"))}, {At: 1, Count: 2}, {Count: 3, Key: api.KeyBold, Value: 1}, {At: 6, Count: 2, ToAt: 2, Fresh: 20},
		{Flow: 10, At: 1, Rows: []api.Row{row(cell(20))}}, {Flow: 10, At: 1, Count: 1}, {Flow: 10, Sub: 1, Cells: []api.Cell{cell(20)}}, {Flow: 10, Sub: 1, Count: 1},
		{Flow: 10, At: 1, Key: api.KeyHeader, Value: 1}, {Flow: 10, Sub: 1, Key: api.KeyShade, Value: 1}, {Flow: 11, At: 1, Items: flow(comment(2))}, {At: 4},
		{Key: api.KeyTop, Value: 9}, {Settings: settings},
	} {
		e.Kind = i + 1
		edits[e.Kind] = e
	}
	return edits
}

// step makes a document or an edit wrong in one place.
type step struct {
	what string
	do   func(d *api.Document, e *api.Edit)
	want api.Errno
}

func wrong(what string, want api.Errno, do func(e *api.Edit)) step {
	return step{what, func(_ *api.Document, e *api.Edit) { do(e) }, want}
}

// checkOrder checks an edit of the base document with each one, and with each two, of some steps, of which the first ones are found first.
func checkOrder(t *testing.T, good api.Edit, steps ...step) {
	t.Helper()
	check := func(what string, want api.Errno, applied ...step) {
		t.Helper()
		d, e := base(), edit.Clone(good)
		for _, s := range applied {
			s.do(&d, &e)
		}
		if err := edit.Check(d, e); err != want {
			t.Errorf("%d with %s: %d; want %d", good.Kind, what, err, want)
		}
		if got, err := edit.Apply(d, e); err != want || err != api.OK && show(got) != show(api.Document{}) {
			t.Errorf("%d with %s: Apply = %+v, %d", good.Kind, what, got, err)
		}
	}
	all := append([]step{
		{"a mark", func(d *api.Document, _ *api.Edit) {
			d.Revs = []api.Rev{{Id: 1, Author: "a"}}
			d.Flow = append(d.Flow, inserted(para()))
		}, api.ErrMark},
		wrong("an unknown kind", api.ErrKind, func(e *api.Edit) { e.Kind = 15 }),
		wrong("a field that is not used", api.ErrFormat, func(e *api.Edit) { e.Cells, e.Rows = []api.Cell{cell(0)}, []api.Row{row()} }),
	}, steps...)
	check("nothing", api.OK)
	for i, first := range all {
		check(first.what, first.want, first)
		for _, second := range all[i+1:] {
			check(first.what+" and "+second.what, first.want, second, first)
		}
	}
}

func noFlow() step {
	return wrong("no flow or table", api.ErrNotFound, func(e *api.Edit) { e.Flow = 99 })
}
func noAt(at int) step   { return wrong("no place", api.ErrRange, func(e *api.Edit) { e.At = at }) }
func noSub(sub int) step { return wrong("no cell", api.ErrRange, func(e *api.Edit) { e.Sub = sub }) }
func noCount() step {
	return wrong("too many", api.ErrRange, func(e *api.Edit) { e.Count = math.MaxInt })
}

func TestP17_1OrderOfContents(t *testing.T) {
	good := possible()
	items := func(what string, want api.Errno, l ...api.Item) step {
		return wrong(what, want, func(e *api.Edit) { e.Items = append(e.Items, l...) })
	}
	insert := []step{noFlow(), noAt(14), items("a mark in a note", api.ErrMark, note(0, inserted(para()))), items("an anchor in a note", api.ErrFlow, note(0, comment(0))), items("an item of no kind", api.ErrKind, api.Item{})}
	checkOrder(t, good[api.EditInsert], insert...)
	noItems := wrong("no items", api.ErrEmpty, func(e *api.Edit) { e.Items = nil })
	checkOrder(t, good[api.EditInsert], slices.Concat(insert[:2], []step{noItems}, insert[2:])...)

	rows := func(what string, want api.Errno, l ...api.Row) step {
		return wrong(what, want, func(e *api.Edit) { e.Rows = append(e.Rows, l...) })
	}
	checkOrder(t, good[api.EditInsertRows], noFlow(), noAt(3), wrong("no rows", api.ErrEmpty, func(e *api.Edit) { e.Rows = nil }),
		rows("a mark in a row", api.ErrMark, api.Row{Head: inserted(para()).Head}), rows("an anchor in a cell", api.ErrFlow, row(cell(0, comment(0)))), rows("too many rows", api.ErrLimit, make([]api.Row, api.MaxRows-2)...), rows("a cell without an id", api.ErrId, row(cell(0))))

	cells := func(what string, want api.Errno, l ...api.Cell) step {
		return wrong(what, want, func(e *api.Edit) { e.Cells = append(e.Cells, l...) })
	}
	inCells := []step{wrong("no cells", api.ErrEmpty, func(e *api.Edit) { e.Cells = nil }),
		cells("a mark in a cell", api.ErrMark, api.Cell{Head: inserted(para()).Head}), cells("an anchor in a cell", api.ErrFlow, cell(0, comment(0))), cells("too many cells", api.ErrLimit, make([]api.Cell, api.MaxColumns-2)...), cells("a cell without an id", api.ErrId, cell(0))}
	checkOrder(t, good[api.EditInsertCells], append([]step{noFlow(), noAt(2)}, inCells...)...)
	checkOrder(t, good[api.EditInsertCells], append([]step{noFlow(), noSub(3)}, inCells...)...)

	checkOrder(t, good[api.EditPutAnchor], noFlow(), noAt(2), items("two items", api.ErrFormat, comment(3)), wrong("a text", api.ErrFormat, func(e *api.Edit) { e.Items[0].Kind = api.Text }),
		wrong("a mark", api.ErrMark, func(e *api.Edit) { e.Items[0].Head.Marks.Ins = 1 }), wrong("no id", api.ErrId, func(e *api.Edit) { e.Items[0].Id = 0 }))
	checkOrder(t, good[api.EditPutAnchor], noAt(2), wrong("no item", api.ErrFormat, func(e *api.Edit) { e.Items = nil }))
}

// badKeys are the steps for an edit that sets a key; other is a key of other elements.
func badKeys(other int) []step {
	return []step{
		wrong("an unknown key", api.ErrKey, func(e *api.Edit) { e.Key = 99 }),
		wrong("a key of other elements", api.ErrKey, func(e *api.Edit) { e.Key = other }),
		wrong("a value to clear", api.ErrFormat, func(e *api.Edit) { e.Value, e.Clear = -1, true }),
		wrong("a wrong value", api.ErrValue, func(e *api.Edit) { e.Value = -1 }),
	}
}

func TestP17_1OrderOfOthers(t *testing.T) {
	good := possible()
	checkOrder(t, good[api.EditDelete], noFlow(), noCount())
	checkOrder(t, good[api.EditDeleteRows], noFlow(), noCount())
	checkOrder(t, good[api.EditDeleteCells], noFlow(), noCount())
	checkOrder(t, good[api.EditDeleteCells], noFlow(), noAt(2), noSub(2))
	checkOrder(t, good[api.EditDropAnchor], noFlow(), noAt(13), wrong("a text", api.ErrKind, func(e *api.Edit) { e.At = 3 }))
	checkOrder(t, good[api.EditFormat], append([]step{noFlow(), noCount()}, badKeys(api.KeyHeader)...)...)
	checkOrder(t, good[api.EditFormatRow], append([]step{noFlow(), noAt(2)}, badKeys(api.KeyShade)...)...)
	checkOrder(t, good[api.EditFormatCell], append([]step{noFlow(), noAt(2)}, badKeys(api.KeyHeader)...)...)
	checkOrder(t, good[api.EditFormatCell], append([]step{noSub(2)}, badKeys(api.KeyBold)...)...)
	checkOrder(t, good[api.EditFormatEnd], badKeys(api.KeyBold)...)
	checkOrder(t, good[api.EditSettings], wrong("a wrong name", api.ErrName, func(e *api.Edit) { e.Settings.Vars[0].Name = "" }), wrong("a style that is gone", api.ErrStyle, func(e *api.Edit) { e.Settings.Styles = nil }))
}

func TestP17_1OrderOfMoves(t *testing.T) {
	good := possible()[api.EditMove]
	noTarget := wrong("no target", api.ErrNotFound, func(e *api.Edit) { e.To = 99 })
	noPlace := wrong("no place in the target", api.ErrRange, func(e *api.Edit) { e.ToAt = 14 })
	before := []step{noFlow(), noCount(), noTarget, noPlace}
	used := wrong("an id in use", api.ErrId, func(e *api.Edit) { e.Fresh = 10 })
	inNote := wrong("a note in a note", api.ErrFlow, func(e *api.Edit) { e.To, e.ToAt = 2, 0 })
	anchored := step{"an anchor in a note", func(d *api.Document, _ *api.Edit) { d.Flow[3].Flow = flow(comment(1)) }, api.ErrMove}
	checkOrder(t, good, append(before, anchored, used, inNote)...)
	checkOrder(t, good, append(before, wrong("into itself", api.ErrMove, func(e *api.Edit) { e.To, e.ToAt = 12, 0 }), used)...)
	for _, at := range []int{6, 7, 8} {
		checkOrder(t, good, append(before, wrong("to where it is", api.ErrMove, func(e *api.Edit) { e.ToAt = at }), used)...)
	}
	checkOrder(t, api.Edit{Kind: api.EditMove, At: 4, Count: 2}, append(before, wrong("only an anchor", api.ErrMove, func(e *api.Edit) { e.Count = 1 }))...)
	checkOrder(t, api.Edit{Kind: api.EditMove, At: 8, Count: 1, Fresh: -9}, append(before, wrong("a section mark in a cell", api.ErrFlow, func(e *api.Edit) { e.To, e.ToAt = 12, 0 }))...)
}

// filled returns edits in each of which one field is set, by the names of the fields.
func filled() map[string]func(e *api.Edit) {
	return map[string]func(e *api.Edit){
		"Flow": func(e *api.Edit) { e.Flow = -1 }, "At": func(e *api.Edit) { e.At = -1 }, "Count": func(e *api.Edit) { e.Count = -1 }, "Sub": func(e *api.Edit) { e.Sub = -1 },
		"To": func(e *api.Edit) { e.To = -1 }, "ToAt": func(e *api.Edit) { e.ToAt = -1 }, "Fresh": func(e *api.Edit) { e.Fresh = math.MinInt }, "Key": func(e *api.Edit) { e.Key = -1 }, "Value": func(e *api.Edit) { e.Value = math.MaxInt },
		"Clear": func(e *api.Edit) { e.Clear, e.Value = true, 0 }, "Items": func(e *api.Edit) { e.Items = flow(api.Item{Kind: api.Anchor}) }, "Rows": func(e *api.Edit) { e.Rows = make([]api.Row, 1) }, "Cells": func(e *api.Edit) { e.Cells = make([]api.Cell, 1) },
		"Settings": func(e *api.Edit) { e.Settings.Styles = make([]api.Style, 1) },
	}
}

func TestP17_1Fields(t *testing.T) {
	good := possible()
	for _, l := range lines() {
		for name, set := range filled() {
			e := edit.Clone(good[l.kind])
			set(&e)
			uses := slices.Contains(l.fields, name)
			if err := edit.Check(base(), e); (err == api.ErrFormat) == uses {
				t.Errorf("%s with another %s: %d", l.word, name, err)
			}
			empty := edit.Clone(good[l.kind])
			for _, field := range []string{"Items", "Rows", "Cells"} {
				if !slices.Contains(l.fields, field) {
					empty.Items, empty.Rows, empty.Cells = append(empty.Items, flow()...), append([]api.Row{}, empty.Rows...), append([]api.Cell{}, empty.Cells...)
				}
			}
			if err := edit.Check(base(), empty); err != api.OK {
				t.Errorf("%s with empty slices: %d", l.word, err)
			}
		}
	}
	for i, s := range []api.Settings{{Styles: make([]api.Style, 1)}, {Lists: make([]api.List, 1)}, {Comments: make([]api.Comment, 1)}, {Vars: make([]api.Var, 1)}} {
		if err := edit.Check(base(), api.Edit{Kind: api.EditDropAnchor, At: 4, Settings: s}); err != api.ErrFormat {
			t.Errorf("%d: settings that are not used: %d", i, err)
		}
	}
	for _, kind := range []int{math.MinInt, -1, 0, 15, math.MaxInt} {
		if err := edit.Check(base(), api.Edit{Kind: kind}); err != api.ErrKind {
			t.Errorf("the kind %d: %d", kind, err)
		}
	}
}

// long returns a text of a number of units.
func long(units int) api.Item { return text(strings.Repeat("a", units)) }

// nested returns a number of tables within one another, around some items; ids are from first on.
func nested(count, first int, l ...api.Item) []api.Item {
	for i := range count {
		l = flow(table(first+2*i, row(cell(first+2*i+1, l...))))
	}
	return l
}

func TestP17_1Insert(t *testing.T) {
	insert := func(flow, at int, l ...api.Item) api.Edit {
		return api.Edit{Kind: api.EditInsert, Flow: flow, At: at, Items: l}
	}
	moveOnly := text("a")
	moveOnly.Head.Marks.Move = 1
	inText, inPara := text("a"), para()
	inText.Flow, inPara.Rows = flow(comment(1)), []api.Row{row(api.Cell{Head: inserted(para()).Head})}
	deleted, layered := para(), para()
	deleted.Head.Marks.Dels, layered.Head.Marks.Layers = make([]api.Del, 1), make([]api.Layer, 1)
	full := doc(long(api.MaxUnits-1), note(1))
	for i, c := range []struct {
		d    api.Document
		e    api.Edit
		want api.Errno
	}{
		{base(), insert(0, 0, text("a")), api.OK}, {base(), insert(0, 13, text("a")), api.OK}, {base(), insert(0, -1, text("a")), api.ErrRange}, {base(), insert(0, math.MaxInt, text("a")), api.ErrRange}, {base(), insert(12, 0, para()), api.OK}, {base(), insert(12, 1, para()), api.ErrRange},
		{base(), insert(10, 0, para()), api.ErrNotFound}, {base(), insert(-1, 0, para()), api.ErrNotFound}, {base(), insert(0, 0), api.ErrEmpty}, {base(), insert(0, 0, text("")), api.ErrEmpty},
		{base(), insert(0, 0, comment(1)), api.ErrFlow}, {base(), insert(0, 0, table(30, row(cell(31, comment(1))))), api.ErrFlow}, {base(), insert(0, 0, inText), api.ErrFlow}, {base(), insert(0, 0, api.Item{Kind: 99, Rows: []api.Row{row(cell(0, comment(0)))}}), api.ErrFlow},
		{base(), insert(0, 0, inPara), api.ErrMark}, {base(), insert(0, 0, comment(1), inserted(para())), api.ErrMark}, {base(), insert(0, 0, moveOnly), api.ErrMark}, {base(), insert(0, 0, deleted), api.ErrMark}, {base(), insert(0, 0, layered), api.ErrMark}, {base(), insert(0, 0, note(30, layered)), api.ErrMark},
		{base(), insert(0, 0, table(30, api.Row{Head: deleted.Head})), api.ErrMark}, {base(), insert(0, 0, table(0)), api.ErrId}, {base(), insert(0, 0, note(10)), api.ErrId}, {base(), insert(0, 0, note(30), note(30)), api.ErrDuplicate}, {base(), insert(1, 0, note(30)), api.ErrFlow}, {base(), insert(11, 0, section()), api.ErrFlow},
		{base(), insert(11, 0, nested(3, 30)...), api.OK}, {base(), insert(11, 0, nested(4, 30)...), api.ErrDepth}, {base(), insert(0, 0, text("a", prop(api.KeyCharStyle, 1))), api.ErrStyle},
		{full, insert(1, 0, text("a")), api.ErrLimit}, {full, insert(1, 0, api.Item{}), api.ErrKind}, {doc(long(api.MaxUnits-2), note(1)), insert(1, 0, text("a")), api.OK}, {doc(long(api.MaxUnits-2), note(1)), insert(1, 0, text("ab")), api.ErrLimit},
	} {
		if err := edit.Check(c.d, c.e); err != c.want {
			t.Errorf("%d: Check = %d; want %d", i, err, c.want)
		}
	}
}

func TestP17_1Parts(t *testing.T) {
	for i, c := range []struct {
		kind, flow, at, count int
		want                  api.Errno
	}{
		{api.EditDelete, 0, 0, 13, api.OK}, {api.EditDelete, 0, 0, 14, api.ErrRange}, {api.EditDelete, 0, 0, 0, api.ErrRange}, {api.EditDelete, 0, 3, -1, api.ErrRange}, {api.EditDelete, 0, -1, 2, api.ErrRange}, {api.EditDelete, 0, 12, 1, api.OK}, {api.EditDelete, 0, 13, 1, api.ErrRange}, {api.EditDelete, 0, 14, -1, api.ErrRange},
		{api.EditDelete, 0, 1, math.MaxInt, api.ErrRange}, {api.EditDelete, 0, math.MinInt, math.MinInt, api.ErrRange}, {api.EditDelete, 0, math.MaxInt, 1, api.ErrRange}, {api.EditDelete, 12, 0, 1, api.ErrRange}, {api.EditDelete, 10, 0, 1, api.ErrNotFound},
		{api.EditDeleteRows, 10, 0, 2, api.OK}, {api.EditDeleteRows, 10, 0, 3, api.ErrRange}, {api.EditDeleteRows, 10, 1, 0, api.ErrRange}, {api.EditDeleteRows, 10, 2, 1, api.ErrRange}, {api.EditDeleteRows, 10, -1, 1, api.ErrRange}, {api.EditDeleteRows, 10, 1, math.MaxInt, api.ErrRange}, {api.EditDeleteRows, 11, 0, 1, api.ErrNotFound}, {api.EditDeleteRows, 0, 0, 1, api.ErrNotFound},
	} {
		if err := edit.Check(base(), api.Edit{Kind: c.kind, Flow: c.flow, At: c.at, Count: c.count}); err != c.want {
			t.Errorf("%d: Check = %d; want %d", i, err, c.want)
		}
	}
	for i, c := range []struct {
		row, cell, count int
		want             api.Errno
	}{
		{0, 0, 2, api.OK}, {0, 1, 1, api.OK}, {1, 0, 1, api.OK}, {1, 0, 2, api.ErrRange}, {1, 1, 1, api.ErrRange}, {0, 2, 1, api.ErrRange}, {0, -1, 1, api.ErrRange}, {0, 0, 0, api.ErrRange}, {0, 1, -1, api.ErrRange}, {0, 1, math.MaxInt, api.ErrRange}, {2, 0, 1, api.ErrRange}, {-1, 0, 1, api.ErrRange},
	} {
		if err := edit.Check(base(), api.Edit{Kind: api.EditDeleteCells, Flow: 10, At: c.row, Sub: c.cell, Count: c.count}); err != c.want {
			t.Errorf("%d: delete-cells = %d; want %d", i, err, c.want)
		}
		e := api.Edit{Kind: api.EditFormatCell, Flow: 10, At: c.row, Sub: c.cell, Key: api.KeyShade}
		if err := edit.Check(base(), e); c.count == 1 && err != c.want {
			t.Errorf("%d: format-cell = %d; want %d", i, err, c.want)
		}
	}
}

func TestP17_1Keys(t *testing.T) {
	for i, c := range []struct {
		key, value int
		clear      bool
		want       api.Errno // for items
	}{
		{api.KeyBold, 0, false, api.OK}, {api.KeyBold, 1, false, api.OK}, {api.KeyBold, 2, false, api.ErrValue}, {api.KeyBold, 0, true, api.OK}, {api.KeyBold, 1, true, api.ErrFormat}, {api.KeySize, 0, true, api.OK}, {api.KeySize, 0, false, api.ErrValue},
		{api.KeyTop, 9, false, api.OK}, {api.KeyTableWidth, 9, false, api.OK}, {api.KeyAlign, 3, false, api.OK}, {api.KeyShade, 0, false, api.ErrKey}, {api.KeyHeader, 0, true, api.ErrKey}, {api.KeyHeader, 1, true, api.ErrKey}, {0, 0, false, api.ErrKey}, {99, 0, true, api.ErrKey}, {math.MinInt, 1, true, api.ErrKey},
		{api.KeyParaStyle, 1, false, api.OK}, {api.KeyParaStyle, 0, false, api.OK}, {api.KeyParaStyle, 2, false, api.ErrStyle}, {api.KeyParaStyle, 9, false, api.ErrStyle}, {api.KeyParaStyle, -1, false, api.ErrValue}, {api.KeyParaStyle, 0, true, api.OK}, {api.KeyParaStyle, 9, true, api.ErrFormat},
		{api.KeyCharStyle, 2, false, api.OK}, {api.KeyCharStyle, 1, false, api.ErrStyle}, {api.KeyCharStyle, 0, false, api.OK}, {api.KeyCharStyle, api.MaxId, false, api.ErrStyle}, {api.KeyCharStyle, api.MaxId + 1, false, api.ErrValue},
		{api.KeyList, 3, false, api.OK}, {api.KeyList, 0, false, api.OK}, {api.KeyList, 1, false, api.ErrList}, {api.KeyList, 0, true, api.OK},
	} {
		e := api.Edit{Kind: api.EditFormat, Count: 1, Key: c.key, Value: c.value, Clear: c.clear}
		if err := edit.Check(base(), e); err != c.want {
			t.Errorf("%d: Check = %d; want %d", i, err, c.want)
		}
	}
	for key := -1; key < 100; key++ {
		for _, c := range []struct {
			e        api.Edit
			from, to int
		}{{api.Edit{Kind: api.EditFormatRow, Flow: 10}, api.KeyHeader, api.KeyRowHeight}, {api.Edit{Kind: api.EditFormatCell, Flow: 10}, api.KeyColSpan, api.KeyShade}, {api.Edit{Kind: api.EditFormatEnd}, api.KeyPageWidth, api.KeyPageFormat}} {
			c.e.Key, c.e.Clear = key, true
			if err := edit.Check(base(), c.e); (err == api.OK) != (c.from <= key && key <= c.to) || err != api.OK && err != api.ErrKey {
				t.Errorf("%d: the key %d: %d", c.e.Kind, key, err)
			}
		}
	}
}

func TestP17_1Moves(t *testing.T) {
	move := func(flow, at, count, to, toAt, fresh int) api.Edit {
		return api.Edit{Kind: api.EditMove, Flow: flow, At: at, Count: count, To: to, ToAt: toAt, Fresh: fresh}
	}
	deep := doc(slices.Concat(nested(4, 1, para()), nested(2, 20), flow(section()), flow(note(40)))...) // from inside out, the cells are 2, 4, 6, 8, and then 21, 23
	anchors := doc(comment(1), text("a"), comment(2), comment(3), note(1, para(), comment(4)), table(2, row(cell(3, note(4, comment(5))))))
	full := doc(long(api.MaxUnits-2), note(1), note(2))
	for i, c := range []struct {
		d    api.Document
		e    api.Edit
		want api.Errno
	}{
		{base(), move(0, 0, 2, 0, 3, 0), api.OK}, {base(), move(0, 0, 2, 0, 2, 0), api.ErrMove}, {base(), move(0, 0, 2, 0, 0, 0), api.ErrMove}, {base(), move(0, 1, 2, 0, 0, 0), api.OK}, {base(), move(0, 0, 2, 0, 13, 0), api.OK}, {base(), move(0, 0, 2, 0, 14, 0), api.ErrRange}, {base(), move(0, 0, 2, 0, -1, 0), api.ErrRange},
		{base(), move(0, 0, 2, 12, 0, 0), api.OK}, {base(), move(0, 0, 2, 12, 1, 0), api.ErrRange}, {base(), move(0, 0, 2, 10, 0, 0), api.ErrNotFound}, {base(), move(0, 0, 2, -1, 9, 0), api.ErrNotFound}, {base(), move(0, 0, 0, 0, 3, 0), api.ErrRange}, {base(), move(0, 0, 0, 99, 3, 0), api.ErrRange}, {base(), move(0, 12, 2, 0, 3, 0), api.ErrRange},
		{base(), move(0, 0, 2, 0, 3, -1), api.OK}, {base(), move(0, 0, 2, 0, 3, math.MaxInt), api.OK}, // there is nothing to number
		{base(), move(0, 6, 1, 0, 3, 20), api.OK}, {base(), move(0, 6, 1, 0, 3, 0), api.ErrId}, {base(), move(0, 6, 1, 0, 3, -1), api.ErrId}, {base(), move(0, 6, 1, 0, 3, 1), api.ErrId}, {base(), move(0, 6, 1, 0, 3, 13), api.ErrId}, {base(), move(0, 6, 1, 0, 3, api.MaxId), api.OK}, {base(), move(0, 6, 1, 0, 3, api.MaxId+1), api.ErrId}, {base(), move(0, 6, 1, 0, 3, math.MaxInt), api.ErrId},
		{base(), move(0, 6, 1, 0, 3, 9), api.OK}, {base(), move(0, 7, 1, 0, 3, 9), api.ErrId}, {base(), move(0, 7, 1, 0, 3, 6), api.OK}, {base(), move(0, 7, 1, 0, 3, 7), api.ErrId}, {base(), move(0, 7, 1, 0, 3, 3), api.OK}, {base(), move(0, 7, 1, 0, 3, api.MaxId-3), api.OK}, {base(), move(0, 7, 1, 0, 3, api.MaxId-2), api.ErrId},
		{base(), move(0, 6, 1, 1, 0, 20), api.ErrMove}, {base(), move(0, 7, 1, 12, 0, 20), api.ErrMove}, {base(), move(0, 0, 13, 13, 0, 20), api.ErrMove}, {base(), move(0, 6, 1, 12, 0, 20), api.OK}, {base(), move(11, 0, 1, 0, 7, 0), api.OK}, {base(), move(11, 0, 1, 11, 1, 0), api.ErrMove}, {base(), move(0, 0, 2, 11, 1, 0), api.OK},
		{base(), move(0, 8, 1, 0, 0, 0), api.OK}, {base(), move(0, 8, 1, 2, 0, 0), api.ErrFlow}, {base(), move(0, 7, 1, 2, 0, 20), api.OK}, {base(), move(0, 6, 2, 2, 0, 20), api.ErrFlow},
		{base(), move(0, 6, 1, 2, 0, 20), api.ErrFlow}, {base(), move(0, 6, 1, 2, 0, 0), api.ErrId}, {base(), move(0, 6, 1, 2, 0, math.MinInt), api.ErrId}, {base(), move(0, 6, 1, 2, 0, api.MaxId+1), api.ErrId}, {base(), move(0, 6, 1, 2, 0, 13), api.ErrId},
		{deep, move(0, 1, 1, 4, 0, 50), api.ErrDepth}, {deep, move(0, 1, 1, 6, 0, 50), api.OK}, {deep, move(0, 1, 1, 8, 1, 50), api.OK}, {deep, move(0, 1, 2, 4, 0, 50), api.ErrDepth}, {deep, move(0, 2, 1, 2, 0, 50), api.ErrFlow}, {deep, move(0, 2, 1, 40, 0, 0), api.ErrFlow}, {deep, move(0, 3, 1, 2, 0, 50), api.OK}, {deep, move(8, 0, 1, 0, 0, 50), api.OK}, {deep, move(0, 0, 1, 40, 0, 50), api.OK}, {deep, move(0, 0, 1, 23, 0, 50), api.ErrDepth},
		{anchors, move(0, 0, 1, 3, 0, 0), api.ErrMove}, {anchors, move(0, 2, 2, 0, 0, 0), api.ErrMove}, {anchors, move(0, 2, 2, 99, 0, 0), api.ErrNotFound}, {anchors, move(0, 0, 4, 3, 0, 0), api.OK}, {anchors, move(0, 4, 1, 0, 0, 50), api.ErrMove}, {anchors, move(0, 5, 1, 0, 0, 50), api.ErrMove}, {anchors, move(3, 0, 1, 0, 0, 50), api.ErrMove}, {anchors, move(1, 0, 2, 0, 0, 0), api.OK},
		{full, move(0, 0, api.MaxUnits-2, 2, 0, 0), api.OK}, {full, move(0, api.MaxUnits-2, 1, 0, 0, 3), api.OK}, // the number of units stays
	} {
		if err := edit.Check(c.d, c.e); err != c.want {
			t.Errorf("%d: Check = %d; want %d", i, err, c.want)
		}
	}
}

// rows returns a number of rows, each with one cell; ids are from first on.
func rows(count, first int) []api.Row {
	var l []api.Row
	for i := range count {
		l = append(l, row(cell(first+i)))
	}
	return l
}

// cells returns a number of cells; ids are from first on.
func cells(count, first int) []api.Cell {
	var l []api.Cell
	for i := range count {
		l = append(l, cell(first+i))
	}
	return l
}

func TestP17_1RowsAndCells(t *testing.T) {
	insertRows := func(id, at int, l ...api.Row) api.Edit {
		return api.Edit{Kind: api.EditInsertRows, Flow: id, At: at, Rows: l}
	}
	insertCells := func(id, at, sub int, l ...api.Cell) api.Edit {
		return api.Edit{Kind: api.EditInsertCells, Flow: id, At: at, Sub: sub, Cells: l}
	}
	high := doc(table(1, row(cell(api.MaxId-2))), note(2, table(3, row(cell(4)))))
	highest := doc(table(api.MaxId-2, row(cell(api.MaxId-1))))
	big := doc(table(1, rows(api.MaxRows-1, 2)...), table(1000, row(cells(api.MaxColumns-1, 1001)...)))
	deep := doc(nested(4, 1)...) // the innermost table is 1, with the cell 2
	full := func(free int) api.Document {
		return doc(table(1, row(cell(2))), long(api.MaxUnits-1-free))
	}
	kept := []api.Prop{prop(api.KeyTableWidth, 5)}
	kindly := table(1, row(cell(2)))
	kindly.Head.Props = kept
	for i, c := range []struct {
		d    api.Document
		e    api.Edit
		want api.Errno
	}{
		{base(), insertRows(10, 0, row(cell(20))), api.OK}, {base(), insertRows(10, 2, row(cell(20)), row(cell(21))), api.OK}, {base(), insertRows(10, 3, row(cell(20))), api.ErrRange}, {base(), insertRows(10, -1, row(cell(20))), api.ErrRange}, {base(), insertRows(11, 0, row(cell(20))), api.ErrNotFound}, {base(), insertRows(0, 0, row(cell(20))), api.ErrNotFound},
		{base(), insertRows(10, 0), api.ErrEmpty}, {base(), insertRows(10, 0, row()), api.ErrEmpty}, {base(), insertRows(10, 0, row(cell(10))), api.ErrId}, {base(), insertRows(10, 0, row(cell(20)), row(cell(20))), api.ErrDuplicate}, {base(), insertRows(10, 0, row(cells(33, 20)...)), api.ErrLimit}, {base(), insertRows(10, 0, row(cell(20, section()))), api.ErrFlow},
		{base(), insertRows(10, 0, api.Row{Head: api.Head{Props: []api.Prop{prop(api.KeyShade, 1)}}, Cells: cells(1, 20)}), api.ErrKey}, {high, insertRows(3, 0, row(cell(5, note(6)))), api.ErrFlow}, {high, insertRows(1, 0, row(cell(5, note(6)))), api.OK},
		{high, insertRows(1, 0, row(cell(api.MaxId), cell(api.MaxId-1))), api.OK}, {high, insertRows(1, 0, row(cell(api.MaxId, note(api.MaxId-1)))), api.OK}, {high, insertRows(1, 0, row(cell(api.MaxId), cell(api.MaxId-2))), api.ErrId}, {high, insertRows(1, 0, row(cell(api.MaxId+1))), api.ErrId},
		{high, insertCells(1, 0, 1, cells(2, api.MaxId-1)...), api.OK}, {high, insertCells(1, 0, 1, cells(2, api.MaxId-2)...), api.ErrId},
		{highest, insertRows(api.MaxId-2, 0, row(cell(api.MaxId))), api.OK}, {highest, insertCells(api.MaxId-2, 0, 1, cell(api.MaxId)), api.OK},
		{big, insertRows(1, 255, rows(1, 5000)...), api.OK}, {big, insertRows(1, 0, rows(2, 5000)...), api.ErrLimit}, {big, insertCells(1000, 0, 31, cells(1, 5000)...), api.OK}, {big, insertCells(1000, 0, 0, cells(2, 5000)...), api.ErrLimit},
		{deep, insertRows(1, 0, row(cell(20))), api.OK}, {deep, insertRows(1, 0, row(cell(20, nested(1, 21)...))), api.ErrDepth}, {deep, insertRows(3, 0, row(cell(20, nested(1, 21)...))), api.OK}, {deep, insertCells(1, 0, 0, cell(20, nested(1, 21)...)), api.ErrDepth}, {deep, insertCells(3, 0, 0, cell(20, nested(1, 21)...)), api.OK},
		{full(3), insertRows(1, 0, row(cell(20, text("ab")))), api.OK}, {full(3), insertRows(1, 0, row(cell(20, text("abc")))), api.ErrLimit}, {full(1), insertRows(1, 0, row(cell(20))), api.OK}, {full(0), insertRows(1, 0, row(cell(20))), api.ErrLimit}, {full(0), insertCells(1, 0, 0, cell(20)), api.ErrLimit}, // the table counts, too
		{base(), insertCells(10, 0, 0, cell(20)), api.OK}, {base(), insertCells(10, 0, 2, cell(20), cell(21)), api.OK}, {base(), insertCells(10, 0, 3, cell(20)), api.ErrRange}, {base(), insertCells(10, 1, 2, cell(20)), api.ErrRange}, {base(), insertCells(10, 1, -1, cell(20)), api.ErrRange}, {base(), insertCells(10, 2, 0, cell(20)), api.ErrRange}, {base(), insertCells(10, -1, 0, cell(20)), api.ErrRange},
		{base(), insertCells(10, 0, 0), api.ErrEmpty}, {base(), insertCells(10, 2, 0), api.ErrRange}, {base(), insertCells(10, 0, 0, cell(13)), api.ErrId}, {base(), insertCells(10, 0, 0, cell(20), cell(20)), api.ErrDuplicate}, {base(), insertCells(10, 0, 0, cell(0)), api.ErrId},
		{doc(kindly), insertRows(1, 1, row(cell(3))), api.OK},
	} {
		if err := edit.Check(c.d, c.e); err != c.want {
			t.Errorf("%d: Check = %d; want %d", i, err, c.want)
		}
	}
}

func TestP17_1Anchors(t *testing.T) {
	put := func(flow, at int, l ...api.Item) api.Edit {
		return api.Edit{Kind: api.EditPutAnchor, Flow: flow, At: at, Items: l}
	}
	strange := comment(1)
	strange.Flow = flow(inserted(text("")))
	for i, c := range []struct {
		e    api.Edit
		want api.Errno
	}{
		{put(0, 13, comment(1)), api.OK}, {put(0, 14, comment(1)), api.ErrRange}, {put(12, 0, samples.Start(1, "a")), api.OK}, {put(1, 1, samples.Anchor(api.BookmarkEnd, 1)), api.OK}, {put(0, 0), api.ErrFormat}, {put(0, 0, text("a")), api.ErrFormat}, {put(0, 0, comment(1), comment(2)), api.ErrFormat}, {put(0, 0, note(30, comment(1))), api.ErrFormat},
		{put(0, 0, strange), api.ErrMark}, {put(0, 0, samples.Start(1, "")), api.ErrName}, {put(0, 0, samples.Anchor(5, 1)), api.ErrKind}, {put(0, 0, comment(0)), api.ErrId}, {put(10, 0, comment(1)), api.ErrNotFound},
		{api.Edit{Kind: api.EditDropAnchor, At: 4}, api.OK}, {api.Edit{Kind: api.EditDropAnchor, At: 3}, api.ErrKind}, {api.Edit{Kind: api.EditDropAnchor, At: 13}, api.ErrRange}, {api.Edit{Kind: api.EditDropAnchor, At: -1}, api.ErrRange}, {api.Edit{Kind: api.EditDropAnchor, Flow: 12}, api.ErrRange}, {api.Edit{Kind: api.EditDropAnchor, Flow: 10}, api.ErrNotFound},
	} {
		if err := edit.Check(base(), c.e); err != c.want {
			t.Errorf("%d: Check = %d; want %d", i, err, c.want)
		}
	}
	if err := edit.Check(doc(long(api.MaxUnits)), put(0, 0, comment(1))); err != api.ErrLimit {
		t.Errorf("an anchor too much: %d", err)
	}
}

// TestP17_1Marks has each kind of marks in each place.
func TestP17_1Marks(t *testing.T) {
	revs := []api.Rev{{Id: 1, Author: "a"}}
	layer := api.Marks{Layers: []api.Layer{{Rev: 1, Key: api.KeyTop}}}
	d := base()
	d.Revs = revs
	d.End.Marks = layer
	byLayer := base()
	byLayer.Revs = revs
	byLayer.Flow[4].Rows[1].Cells[0].Head.Marks.Dels = []api.Del{{Rev: 1}}
	unused := base()
	unused.Revs = revs
	for _, e := range possible() {
		if f, g := edit.Check(d, e), edit.Check(byLayer, e); f != api.ErrMark || g != api.ErrMark {
			t.Errorf("%d: %d, %d", e.Kind, f, g)
		}
		got, err := edit.Apply(unused, e) // a revision without marks
		if err != api.OK || len(got.Revs) > 0 {
			t.Errorf("%d: %+v, %d", e.Kind, got, err)
		}
	}
	if err := edit.Check(d, api.Edit{Kind: 99, Flow: 99}); err != api.ErrMark {
		t.Errorf("an unknown kind: %d", err)
	}
}
