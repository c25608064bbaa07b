package samples_test

import (
	"fmt"
	"math/rand/v2"
	"testing"

	"obelus/api"
	"obelus/document"
	"obelus/edit"
	"obelus/move"
	"obelus/samples"
	"obelus/splice"
)

func TestEdit(t *testing.T) {
	possible, impossible := make(map[int]int), 0
	for seed := range uint64(4000) {
		d := samples.Plain(rand.New(rand.NewPCG(seed, 4)).IntN)
		e := samples.Edit(rand.New(rand.NewPCG(seed, 5)).IntN, d)
		if again := samples.Edit(rand.New(rand.NewPCG(seed, 5)).IntN, d); fmt.Sprintf("%+v", e) != fmt.Sprintf("%+v", again) {
			t.Fatalf("the same choices make %+v and %+v", e, again)
		}
		if !samples.Apart(d, e) {
			t.Fatalf("%+v shares memory", e)
		}
		if edit.Check(d, e) == api.OK {
			possible[e.Kind]++
		} else {
			impossible++
		}
	}
	for kind := api.EditInsert; kind <= api.EditSettings; kind++ {
		if possible[kind] < 5 {
			t.Errorf("%d edits of the kind %d are possible", possible[kind], kind)
		}
	}
	if impossible < 1000 || impossible > 3600 {
		t.Errorf("%d edits are not possible", impossible)
	}
}

func TestSplice(t *testing.T) {
	possible, impossible := make(map[int]int), 0
	for seed := range uint64(2000) {
		d := samples.Document(rand.New(rand.NewPCG(seed, 6)).IntN)
		s := samples.Splice(rand.New(rand.NewPCG(seed, 7)).IntN, d, samples.Revs())
		if again := samples.Splice(rand.New(rand.NewPCG(seed, 7)).IntN, d, samples.Revs()); fmt.Sprintf("%+v", s) != fmt.Sprintf("%+v", again) {
			t.Fatalf("the same choices make %+v and %+v", s, again)
		}
		if !samples.Apart(d, s) {
			t.Fatalf("%+v shares memory", s)
		}
		if _, e := splice.Apply(d, s, samples.Revs()); e == api.OK {
			possible[s.Kind]++
		} else {
			impossible++
		}
	}
	for kind := api.SpliceItems; kind <= api.SpliceSet; kind++ {
		if possible[kind] < 50 {
			t.Errorf("%d splices of the kind %d are possible", possible[kind], kind)
		}
	}
	if impossible < 100 || impossible > 1000 {
		t.Errorf("%d splices are not possible", impossible)
	}
}

func TestSplices(t *testing.T) {
	whole := 0
	for seed := range uint64(200) {
		d := samples.Document(rand.New(rand.NewPCG(seed, 9)).IntN)
		l, behind := samples.Splices(rand.New(rand.NewPCG(seed, 10)).IntN, d, 3, samples.Revs())
		if len(l) > 3 || len(l) != len(behind) || !samples.Apart(d, l) {
			t.Fatalf("%d splices and %d documents, or shared memory", len(l), len(behind))
		}
		for i := range l {
			if out, _, e := splice.Run(d, l[:i+1], samples.Revs()); e != api.OK || !document.Equal(out, behind[i]) {
				t.Fatalf("Run(%+v, %+v) = %+v, %d; want %+v", d, l[:i+1], out, e, behind[i])
			}
		}
		if len(l) == 3 {
			whole++
		}
	}
	if whole < 150 {
		t.Errorf("%d whole lists", whole)
	}
}

func TestRewrite(t *testing.T) {
	l := samples.Flow(samples.Text("ab"), samples.Note(3, samples.Para()), samples.Table(4, samples.Row(samples.Cell(6, samples.Note(7))), samples.Row(samples.Cell(5))))
	var flows, tables []int
	got := samples.Rewrite(9, l, func(id int, units []api.Item) []api.Item {
		flows = append(flows, id)
		return append(units, samples.Break(api.Tab))
	}, func(id int, rows []api.Row) []api.Row {
		tables = append(tables, id)
		return rows[:1]
	})
	tab := samples.Break(api.Tab)
	want := samples.Flow(samples.Text("a"), samples.Text("b"), samples.Note(3, samples.Para(), tab), samples.Table(4, samples.Row(samples.Cell(6, samples.Note(7, tab), tab))), tab)
	if fmt.Sprintf("%+v", got) != fmt.Sprintf("%+v", want) || fmt.Sprint(flows, tables) != "[3 7 6 5 9] [4]" {
		t.Errorf("Rewrite = %+v, of the flows %v and the tables %v", got, flows, tables)
	}
	if got := samples.Rewrite(0, l, nil, nil); fmt.Sprintf("%+v", got) != fmt.Sprintf("%+v", samples.Units(l)) {
		t.Errorf("Rewrite = %+v", got)
	}
}

func TestWithFlowAndTable(t *testing.T) {
	r := rand.New(rand.NewPCG(1, 8))
	for range 300 {
		d := samples.Document(r.IntN)
		d = document.Normal(d)
		before := fmt.Sprintf("%+v", d)
		for _, id := range document.Flows(d) {
			want, _ := document.SetFlow(d, id, samples.Flow(samples.Text("x")))
			got := samples.WithFlow(d, id, func([]api.Item) []api.Item { return samples.Flow(samples.Text("x")) })
			if !document.Equal(document.Normal(got), want) {
				t.Fatalf("WithFlow(%s, %d) = %+v", before, id, got)
			}
		}
		for _, id := range document.Tables(d) {
			rows := []api.Row{samples.Row(samples.Cell(1))}
			want, _ := document.SetTable(d, id, rows)
			got := samples.WithTable(d, id, func([]api.Row) []api.Row { return rows })
			if !document.Equal(document.Normal(got), want) {
				t.Fatalf("WithTable(%s, %d) = %+v", before, id, got)
			}
		}
		if fmt.Sprintf("%+v", d) != before {
			t.Fatalf("%s was changed", before)
		}
	}
}

func TestEdited(t *testing.T) {
	tracked, moved := 0, 0
	for seed := range uint64(300) {
		d := document.Normal(samples.Plain(rand.New(rand.NewPCG(seed, 11)).IntN))
		before := fmt.Sprintf("%+v", d)
		got := samples.Edited(rand.New(rand.NewPCG(seed, 12)).IntN, d, 10)
		if again := samples.Edited(rand.New(rand.NewPCG(seed, 12)).IntN, d, 10); fmt.Sprintf("%+v", got) != fmt.Sprintf("%+v", again) {
			t.Fatalf("the same choices make %+v and %+v", got, again)
		}
		if same := samples.Edited(nil, d, 0); fmt.Sprintf("%+v", same) != before {
			t.Fatalf("no edits make %+v of %s", same, before)
		}
		if e := document.Check(got); e != api.OK || fmt.Sprintf("%+v", d) != before {
			t.Fatalf("%+v has the error %d, or %s was changed", got, e, before)
		}
		if !document.Plain(got) {
			tracked++
		}
		if len(move.List(got)) > 0 {
			moved++
		}
	}
	if tracked < 150 || moved < 50 {
		t.Errorf("%d documents are tracked, %d have moves", tracked, moved)
	}
}
