package flows_test

import (
	"fmt"
	"math/rand/v2"
	"testing"

	"obelus/api"
	"obelus/document"
	"obelus/flows"
	"obelus/samples"
)

func TestAll(t *testing.T) {
	text, note, table, row, cell := samples.Text, samples.Note, samples.Table, samples.Row, samples.Cell
	d := samples.Doc(text("a"), table(3, row(cell(9, note(2, text("b"))), cell(8)), row(cell(1, table(4, row(cell(7)))))), note(5), api.Item{Kind: api.Para, Flow: samples.Flow(note(6)), Rows: []api.Row{row(cell(10))}})
	var ids []int
	for id := range flows.All(d) {
		ids = append(ids, id)
	}
	if fmt.Sprint(ids) != "[0 9 2 8 1 7 5]" {
		t.Errorf("All yields %v", ids)
	}
	r := rand.New(rand.NewPCG(1, 1))
	for range 500 {
		d := samples.Document(r.IntN)
		var ids []int
		for id, l := range flows.All(d) {
			ids = append(ids, id)
			if want, found := document.Flow(d, id); !found || fmt.Sprintf("%+v", l) != fmt.Sprintf("%+v", want) {
				t.Fatalf("All yields %+v for %d of %+v", l, id, d)
			}
		}
		if fmt.Sprint(ids) != fmt.Sprint(document.Flows(d)) {
			t.Fatalf("All yields %v for %+v", ids, d)
		}
		for stop := range ids {
			count := 0
			for range flows.All(d) {
				if count++; count > stop {
					break
				}
			}
			if count != stop+1 {
				t.Fatalf("%d flows were visited instead of %d", count, stop+1)
			}
		}
	}
}

func TestUnits(t *testing.T) {
	bold := api.Prop{Key: api.KeyBold, Value: 1}
	text, note, table := samples.Text, samples.Note(3, samples.Text("ab")), samples.Table(4, samples.Row(samples.Cell(5, samples.Text("cd"))))
	for i, c := range [][2][]api.Item{
		{nil, nil}, {{text("")}, nil}, {{text("a")}, {text("a")}},
		{{text("a\u00e9", bold), text("\U0001F600"), samples.Para(), text("\n\uFFFD")}, {text("a", bold), text("\u00e9", bold), text("\U0001F600"), samples.Para(), text("\n"), text("\uFFFD")}},
		{{note, samples.Field("page"), table, samples.Anchor(api.CommentEnd, 1)}, {note, samples.Field("page"), table, samples.Anchor(api.CommentEnd, 1)}},
		{{text("a\xFF\xC3b")}, {text("a"), text("\xFF"), text("\xC3"), text("b")}},
	} {
		before := fmt.Sprintf("%+v", c[0])
		if got := flows.Units(c[0]); fmt.Sprintf("%+v", got) != fmt.Sprintf("%+v", c[1]) || fmt.Sprintf("%+v", c[0]) != before {
			t.Errorf("%d: Units = %+v; want %+v", i, got, c[1])
		}
	}
}

// TestAllDeep nests flows as deeply as the document permits.
func TestAllDeep(t *testing.T) {
	const depth = 1 << 16
	tables, notes := samples.Deep(depth)
	for i, l := range [][]api.Item{tables, notes} {
		count := 0
		for range flows.All(api.Document{Flow: l}) {
			count++
		}
		if count != depth+1 {
			t.Errorf("%d: %d flows were visited", i, count)
		}
	}
}
