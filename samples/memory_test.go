package samples_test

import (
	"testing"

	"obelus/api"
	"obelus/samples"
)

func TestApart(t *testing.T) {
	props := make([]api.Prop, 1, 3)
	dels := make([]api.Del, 2)
	layers := make([]api.Layer, 1)
	flow := make([]api.Item, 2, 4)
	rows, cells, vars, revs := make([]api.Row, 2), make([]api.Cell, 2), make([]api.Var, 2), make([]api.Rev, 2)
	numbers, bools, ranges := make([]int, 2, 3), make([]bool, 2), make([]api.Range, 2)
	head := func() api.Head { return api.Head{Props: make([]api.Prop, 1)} }
	for i, l := range [][]any{
		{api.Head{Props: props}, []api.Item{{Head: head(), Flow: flow}, {Head: head(), Rows: make([]api.Row, 2)}}, head(), []api.Item(nil), []api.Item{}},
		{[]api.Row{{Head: head(), Cells: []api.Cell{{Head: head()}, {Head: head(), Flow: make([]api.Item, 1)}}}}, api.Head{Marks: api.Marks{Dels: dels, Layers: layers}}},
		{[]api.Splice{{Old: api.Piece{Items: make([]api.Item, 1)}, New: api.Piece{Rows: make([]api.Row, 1), Head: head()}}, {New: api.Piece{Cells: make([]api.Cell, 2), Settings: api.Settings{Vars: make([]api.Var, 1)}}}}, make([]api.Rev, 2)},
		{api.Decision{Accept: make([]int, 2), Reject: make([]int, 2)}, make([]int, 2), make([]bool, 2), make([]api.Layer, 2), make([]api.Range, 2)},
		{[]api.Edit{{Items: make([]api.Item, 1)}, {Rows: make([]api.Row, 1), Cells: make([]api.Cell, 2), Settings: api.Settings{Vars: make([]api.Var, 1)}}}, make([]api.Cell, 1)},
	} {
		if !samples.Apart(l...) {
			t.Errorf("%d: not Apart", i)
		}
	}
	for i, l := range [][]any{
		{flow, flow},
		{flow[:1], flow[2:3]},
		{flow[:0:2], flow[1:]},
		{api.Head{Props: props}, api.Item{Head: api.Head{Props: props[:0]}}},
		{[]api.Item{{Flow: flow}, {Flow: flow}}},
		{flow, api.Cell{Flow: flow[1:]}},
		{api.Row{Head: api.Head{Marks: api.Marks{Dels: dels}}}, api.Cell{Head: api.Head{Marks: api.Marks{Dels: dels[1:]}}}},
		{[]api.Row{{Cells: []api.Cell{{Head: api.Head{Marks: api.Marks{Layers: layers}}}}}, {Head: api.Head{Marks: api.Marks{Layers: layers}}}}},
		{api.Splice{Old: api.Piece{Items: flow[:1]}}, flow[3:4]},
		{[]api.Splice{{New: api.Piece{Rows: rows}}}, api.Piece{Rows: rows[:0]}},
		{api.Splice{Old: api.Piece{Cells: cells}, New: api.Piece{Cells: cells[1:]}}},
		{api.Splice{Old: api.Piece{Head: api.Head{Props: props}}, New: api.Piece{Head: api.Head{Props: props[:0]}}}},
		{api.Piece{Settings: api.Settings{Vars: vars}}, api.Settings{Vars: vars[1:]}},
		{revs, revs[:1]},
		{numbers[:1], numbers[1:]},
		{bools, bools[1:]},
		{ranges, ranges[:1]},
		{api.Head{Marks: api.Marks{Layers: layers}}, layers},
		{api.Decision{Accept: numbers[:1], Reject: numbers[1:]}},
		{api.Decision{Reject: numbers}, numbers},
		{api.Edit{Items: flow[:1]}, flow[3:4]},
		{[]api.Edit{{Cells: cells[1:]}}, cells},
		{api.Edit{Rows: rows}, api.Edit{Rows: rows[:0]}},
		{api.Edit{Settings: api.Settings{Vars: vars}}, api.Edit{Settings: api.Settings{Vars: vars[1:]}}},
	} {
		if samples.Apart(l...) {
			t.Errorf("%d: Apart", i)
		}
	}
}

func TestApartOfOtherTypes(t *testing.T) {
	defer func() {
		if recover() == nil {
			t.Error("Apart has an answer for strings")
		}
	}()
	samples.Apart([]string{"a"})
}
