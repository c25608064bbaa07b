package samples_test

import (
	"fmt"
	"math/rand/v2"
	"testing"

	"obelus/api"
	"obelus/samples"
)

// kindsIn counts the items of each kind, the rows (9) and the cells (10) in a flow.
func kindsIn(l []api.Item, kinds map[int]int) {
	for _, item := range l {
		kinds[item.Kind]++
		kindsIn(item.Flow, kinds)
		for _, row := range item.Rows {
			kinds[9]++
			for _, cell := range row.Cells {
				kinds[10]++
				kindsIn(cell.Flow, kinds)
			}
		}
	}
}

func TestDocument(t *testing.T) {
	kinds := make(map[int]int)
	for seed := range uint64(300) {
		d := samples.Document(rand.New(rand.NewPCG(seed, 1)).IntN)
		if again := samples.Document(rand.New(rand.NewPCG(seed, 1)).IntN); fmt.Sprintf("%+v", d) != fmt.Sprintf("%+v", again) {
			t.Fatalf("the same choices make %+v and %+v", d, again)
		}
		if !samples.Apart(d) {
			t.Fatalf("%+v shares memory with itself", d)
		}
		kindsIn(d.Flow, kinds)
	}
	for kind := 1; kind <= 10; kind++ {
		if kinds[kind] < 50 {
			t.Errorf("there are %d elements of the kind %d", kinds[kind], kind)
		}
	}
}

func TestPlain(t *testing.T) {
	kinds := make(map[int]int)
	var check func(l []api.Item)
	unmarked := func(h api.Head) {
		if m := h.Marks; m.Ins != 0 || m.Move != 0 || len(m.Dels)+len(m.Layers) > 0 {
			t.Fatalf("the marks %+v", m)
		}
	}
	check = func(l []api.Item) {
		for _, item := range l {
			unmarked(item.Head)
			check(item.Flow)
			for _, row := range item.Rows {
				unmarked(row.Head)
				for _, cell := range row.Cells {
					unmarked(cell.Head)
					check(cell.Flow)
				}
			}
		}
	}
	for seed := range uint64(300) {
		d := samples.Plain(rand.New(rand.NewPCG(seed, 3)).IntN)
		unmarked(d.End)
		check(d.Flow)
		kindsIn(d.Flow, kinds)
		if !samples.Apart(d) {
			t.Fatalf("%+v shares memory with itself", d)
		}
	}
	for kind := 1; kind <= 10; kind++ {
		if kinds[kind] < 50 {
			t.Errorf("there are %d elements of the kind %d", kinds[kind], kind)
		}
	}
}

func TestItems(t *testing.T) {
	r := rand.New(rand.NewPCG(1, 2))
	kinds := make(map[int]int)
	var check func(l []api.Item)
	check = func(l []api.Item) {
		for _, item := range l {
			if (item.Kind == api.Note || item.Kind == api.Table) && item.Id < 500 {
				t.Errorf("an id is %d", item.Id)
			}
			check(item.Flow)
			for _, row := range item.Rows {
				for _, cell := range row.Cells {
					if cell.Id < 500 {
						t.Errorf("an id is %d", cell.Id)
					}
					check(cell.Flow)
				}
			}
		}
	}
	for range 300 {
		l := samples.Items(r.IntN, samples.Document(r.IntN), 500)
		check(l)
		kindsIn(l, kinds)
	}
	if kinds[api.Note] < 50 || kinds[api.Section] < 50 || kinds[10] < 50 {
		t.Errorf("the kinds are %v", kinds)
	}
}

func TestApartOfDocuments(t *testing.T) {
	props, levels, revs := make([]api.Prop, 2), make([]api.Level, 2), make([]api.Rev, 2)
	styles, comments, vars := make([]api.Style, 2), make([]api.Comment, 2), make([]api.Var, 2)
	all := func() api.Document {
		return api.Document{
			Flow: make([]api.Item, 2), End: api.Head{Props: make([]api.Prop, 2)}, Revs: revs,
			Settings: api.Settings{Styles: styles, Lists: []api.List{{Levels: levels}}, Comments: comments, Vars: vars},
		}
	}
	if d := all(); !samples.Apart(d) || samples.Apart(d, d) {
		t.Error("Apart of a document is wrong")
	}
	for i, d := range []api.Document{
		{Revs: revs[1:]}, {End: api.Head{Props: props[:1]}}, {Settings: api.Settings{Styles: styles[:1]}}, {Settings: api.Settings{Styles: []api.Style{{Props: props[1:]}}}},
		{Settings: api.Settings{Lists: []api.List{{}, {Levels: levels[1:]}}}}, {Settings: api.Settings{Comments: comments[1:]}}, {Settings: api.Settings{Vars: vars[:1]}},
	} {
		if samples.Apart(all(), d, props) {
			t.Errorf("%d: Apart", i)
		}
	}
}

func TestDecision(t *testing.T) {
	r := rand.New(rand.NewPCG(1, 11))
	kinds := make(map[string]int)
	for range 300 {
		kinds[fmt.Sprint(samples.Decision(r.IntN, []int{3, 7}))]++
	}
	for _, kind := range []string{"{[] []}", "{[3] []}", "{[7] []}", "{[3 7] []}", "{[] [3]}", "{[] [7]}", "{[] [3 7]}", "{[3] [7]}", "{[7] [3]}"} {
		if kinds[kind] < 10 {
			t.Errorf("%d decisions are %s", kinds[kind], kind)
		}
	}
	if len(kinds) != 9 {
		t.Errorf("the decisions are %v", kinds)
	}
}
