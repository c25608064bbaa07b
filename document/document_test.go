package document_test

import (
	"math/rand/v2"
	"reflect"
	"slices"
	"testing"

	"obelus/api"
	"obelus/document"
	"obelus/run"
	"obelus/samples"
)

// strange returns documents that are not valid in some way.
func strange(r *rand.Rand) []api.Document {
	var l []api.Document
	for range 200 {
		d := samples.Document(r.IntN)
		d.Flow = rewrite(d.Flow, 0, func(_ int, l []api.Item) []api.Item {
			l = slices.Clone(l)
			for i := range l {
				if r.IntN(4) == 0 {
					l[i].Kind = r.IntN(13) - 1
				}
				if r.IntN(6) == 0 {
					l[i].Id = r.IntN(3) - 1
				}
				if r.IntN(6) == 0 {
					l[i].Text = "\xFF"
				}
			}
			return l
		}, sameTable)
		l = append(l, d)
	}
	empty := api.Item{Kind: api.Table, Id: 1}
	wild := func() api.Head {
		return api.Head{Props: []api.Prop{prop(9, 9), prop(-1, 1)}, Marks: api.Marks{Ins: -1, Move: -1, Dels: make([]api.Del, 20), Layers: make([]api.Layer, 70)}}
	}
	return append(l, doc(empty, empty, table(0, api.Row{})), doc(api.Item{Kind: 9}, api.Item{Kind: 10}, api.Item{Kind: 10, Flow: flow(text("a")), Rows: []api.Row{row(cell(1))}}),
		api.Document{Flow: flow(api.Item{Head: wild()}, note(0, section()), note(-1, note(1<<62))), End: wild(), Revs: make([]api.Rev, 300), Settings: api.Settings{Styles: make([]api.Style, 3), Lists: make([]api.List, 70), Comments: make([]api.Comment, 2), Vars: make([]api.Var, 2)}})
}

func TestP1AllArguments(t *testing.T) {
	r := rand.New(rand.NewPCG(13, 1))
	all := append(strange(r), api.Document{})
	for i, d := range all {
		other := all[r.IntN(len(all))]
		document.CheckSettings(d.Settings)
		document.Check(d)
		document.Flows(d)
		document.Tables(d)
		document.Units(d)
		document.Used(d)
		document.Plain(d)
		document.Fresh(d)
		document.Same(d, other)
		document.Equal(d, other)
		for _, got := range []api.Document{document.Normal(d), document.Renumber(d), document.Clone(d)} {
			if !samples.Apart(d, got) {
				t.Errorf("%d: a result shares memory", i)
			}
		}
		for _, id := range everywhere(d) {
			document.CheckInsert(d, id, other.Flow)
			if l, ok := document.Flow(d, id); !ok && len(l) > 0 {
				t.Errorf("Flow(%+v, %d) = %+v", d, id, l)
			}
			if got, ok := document.SetFlow(d, id, other.Flow); !ok && show(got) != show(api.Document{}) {
				t.Errorf("SetFlow(%+v, %d) = %+v", d, id, got)
			}
			if item, ok := document.Table(d, id); !ok && show(item) != show(api.Item{}) {
				t.Errorf("Table(%+v, %d) = %+v", d, id, item)
			}
			if got, ok := document.SetTable(d, id, nil); !ok && show(got) != show(api.Document{}) {
				t.Errorf("SetTable(%+v, %d) = %+v", d, id, got)
			}
			if p, ok := document.Place(d, id); !ok && p != (api.Pos{}) {
				t.Errorf("Place(%+v, %d) = %+v", d, id, p)
			}
		}
	}
}

// TestP1Deep nests flows as deeply as the document permits.
func TestP1Deep(t *testing.T) {
	var tables, notes []api.Item
	deep := 1 << 16
	for i := range deep {
		tables = flow(text("a"), table(2*i+1, row(cell(2*i+2, tables...))), text("b"), text("c"))
		notes = flow(note(i+1, notes...))
	}
	a, b := doc(tables...), doc(notes...)
	if e := document.Check(a); e != api.ErrDepth {
		t.Errorf("Check = %d", e)
	}
	if e := document.Check(b); e != api.ErrFlow {
		t.Errorf("Check = %d", e)
	}
	if f, g, h, u := document.Flows(a), document.Flows(b), document.Tables(a), document.Units(a); len(f) != deep+1 || len(g) != deep+1 || len(h) != deep || u != 4*deep {
		t.Errorf("%d and %d flows, %d tables, %d units", len(f), len(g), len(h), u)
	}
	if f := document.Fresh(a); f != 2*deep+1 {
		t.Errorf("Fresh = %d", f)
	}
	if p, ok := document.Place(b, 1); !ok || p != (api.Pos{Flow: 2}) {
		t.Errorf("Place = %+v, %v", p, ok)
	}
	if got, ok := document.SetFlow(b, 1, flow(text("x"))); !ok || document.Units(got) != deep+1 {
		t.Errorf("SetFlow: %v", ok)
	}
	if e := document.CheckInsert(b, 1, flow(note(deep+1))); e != api.ErrFlow {
		t.Errorf("CheckInsert = %d", e)
	}
	if normal := document.Normal(a); document.Equal(a, normal) || !document.Equal(normal, document.Clone(normal)) || !document.Same(a, normal) {
		t.Error("the normal form is wrong")
	}
}

func TestP13_2Flows(t *testing.T) {
	d := doc(table(3, row(cell(5), cell(4))))
	if f, g := document.Flows(d), document.Tables(d); !slices.Equal(f, []int{0, 5, 4}) || !slices.Equal(g, []int{3}) {
		t.Errorf("the chapter's example has the flows %v, the tables %v", f, g)
	}
	if f, g := document.Flows(api.Document{}), document.Tables(api.Document{}); !slices.Equal(f, []int{0}) || len(g) > 0 {
		t.Errorf("the empty document has the flows %v, the tables %v", f, g)
	}
	if l, ok := document.Flow(api.Document{}, 0); !ok || len(l) > 0 {
		t.Errorf("the body of the empty document is %+v, %v", l, ok)
	}
	many(1500, 2, func(r *rand.Rand, d api.Document) {
		before := full(d)
		wantFlows := map[int][]api.Item{0: d.Flow}
		wantTables := map[int]api.Item{}
		order, tables := []int{0}, []int{}
		for _, p := range parts(d.Flow, 0) {
			if p.hasFlow {
				wantFlows[p.id] = p.inner
				order = append(order, p.id)
			}
			if p.kind == api.Table {
				wantTables[p.id] = p.item
				tables = append(tables, p.id)
			}
		}
		if f, g := document.Flows(d), document.Tables(d); !slices.Equal(f, order) || !slices.Equal(g, tables) {
			t.Fatalf("%+v has the flows %v, the tables %v", d, f, g)
		}
		for _, id := range everywhere(d) {
			want, is := wantFlows[id]
			if l, ok := document.Flow(d, id); ok != is || show(l) != show(want) || !samples.Apart(d, l) {
				t.Fatalf("Flow(%+v, %d) = %+v, %v", d, id, l, ok)
			}
			item, is := wantTables[id]
			if got, ok := document.Table(d, id); ok != is || show(got) != show(item) || !samples.Apart(d, got) {
				t.Fatalf("Table(%+v, %d) = %+v, %v", d, id, got, ok)
			}
		}
		if full(d) != before {
			t.Fatalf("%s was changed to %s", before, full(d))
		}
	})
}

func TestP13_3SetFlowAndSetTable(t *testing.T) {
	many(600, 3, func(r *rand.Rand, d api.Document) {
		other := samples.Document(r.IntN)
		l := append(other.Flow, text("", prop(api.KeyBold, 1)), text("x"), text("y"))
		rows := []api.Row{row(), row(cell(20000, l...), cell(20001)), {Head: other.End}}
		if r.IntN(3) == 0 {
			rows = rows[:1] // the table vanishes
		}
		before := full(d) + show(l[:cap(l)]) + show(rows[:cap(rows)])
		for _, id := range everywhere(d) {
			is := slices.Contains(document.Flows(d), id)
			got, ok := document.SetFlow(d, id, l)
			if ok != is || !is && show(got) != show(api.Document{}) {
				t.Fatalf("SetFlow(%+v, %d) = %+v, %v", d, id, got, ok)
			}
			if is {
				wants(t, "SetFlow", got, withFlow(d, id, l), d, l)
			}
			is = slices.Contains(document.Tables(d), id)
			got, ok = document.SetTable(d, id, rows)
			if ok != is || !is && show(got) != show(api.Document{}) {
				t.Fatalf("SetTable(%+v, %d) = %+v, %v", d, id, got, ok)
			}
			if is {
				wants(t, "SetTable", got, withTable(d, id, rows), d, rows)
			}
		}
		if after := full(d) + show(l[:cap(l)]) + show(rows[:cap(rows)]); after != before {
			t.Fatalf("%s was changed to %s", before, after)
		}
	})
}

// TestP13_3Revisions checks that revisions stay or go with the marks that the new items have.
func TestP13_3Revisions(t *testing.T) {
	d := doc(marked(text("a"), api.Marks{Ins: 1}), note(5, marked(text("b"), api.Marks{Ins: 2})))
	d.Revs = []api.Rev{{Id: 1, Author: "A"}, {Id: 2, Author: "B"}, {Id: 3, Author: "C"}}
	with := flow(marked(text("c"), api.Marks{Ins: 3}), marked(text("d"), api.Marks{Ins: 9}), marked(text(""), api.Marks{Ins: 1}))
	if got, ok := document.SetFlow(d, 5, with); !ok || show(got.Revs) != show([]api.Rev{d.Revs[0], d.Revs[2]}) {
		t.Errorf("SetFlow has the revisions %+v, %v", got.Revs, ok)
	}
	if got, ok := document.SetFlow(d, 0, with); !ok || show(got.Revs) != show(d.Revs[2:]) {
		t.Errorf("SetFlow has the revisions %+v, %v", got.Revs, ok)
	}
	if got, ok := document.SetFlow(d, 0, nil); !ok || len(got.Revs) > 0 || len(got.Flow) > 0 {
		t.Errorf("SetFlow = %+v, %v", got, ok)
	}
}

func TestP13_4Place(t *testing.T) {
	d := doc(text("ab"), table(3, row(cell(5, text("\u00e9x"), note(7, text("y")))), row(cell(4))), note(6))
	for id, want := range map[int]api.Pos{3: {At: 2}, 4: {At: 2}, 5: {At: 2}, 6: {At: 3}, 7: {Flow: 5, At: 2}} {
		if p, ok := document.Place(d, id); p != want || !ok {
			t.Errorf("Place(%d) = %+v, %v", id, p, ok)
		}
	}
	many(1500, 4, func(r *rand.Rand, d api.Document) {
		places := make(map[int]api.Pos)
		for _, p := range parts(d.Flow, 0) {
			if p.id != 0 {
				places[p.id] = api.Pos{Flow: p.flow, At: p.unit}
			}
		}
		for _, id := range everywhere(d) {
			want, is := places[id]
			if p, ok := document.Place(d, id); p != want || ok != is {
				t.Fatalf("Place(%+v, %d) = %+v, %v", d, id, p, ok)
			}
		}
	})
}

func TestP13_5Counts(t *testing.T) {
	d := doc(table(3, row(cell(5), cell(4))))
	if l, fresh := document.Ids(d), document.Fresh(d); !slices.Equal(l, []int{3, 4, 5}) || fresh != 6 {
		t.Errorf("the chapter's example has the ids %v, then %d", l, fresh)
	}
	if n := document.Units(doc(text("ab"), text("c"))); n != 3 {
		t.Errorf("the chapter's example has %d units", n)
	}
	if l, fresh, n := document.Ids(api.Document{}), document.Fresh(api.Document{}), document.Units(api.Document{}); len(l) > 0 || fresh != 1 || n != 0 {
		t.Errorf("the empty document has the ids %v, then %d, and %d units", l, fresh, n)
	}
	if fresh := document.Fresh(doc(anchor(api.CommentEnd, 9), note(api.MaxId))); fresh != api.MaxId+1 {
		t.Errorf("Fresh = %d", fresh)
	}
	plain := 0
	many(1500, 5, func(r *rand.Rand, d api.Document) {
		before := full(d)
		var ids []int
		units := 0
		for _, p := range parts(d.Flow, 0) {
			if p.id != 0 {
				ids = append(ids, p.id)
			}
			units += p.units
		}
		slices.Sort(ids)
		fresh := 1
		if len(ids) > 0 {
			fresh = ids[len(ids)-1] + 1
		}
		if l, n := document.Ids(d), document.Fresh(d); !slices.Equal(l, ids) || n != fresh {
			t.Fatalf("%+v has the ids %v, then %d; want %v", d, l, n, ids)
		}
		if n := document.Units(d); n != units {
			t.Fatalf("Units(%+v) = %d; want %d", d, n, units)
		}
		used := naiveUsed(d)
		if l, p := document.Used(d), document.Plain(d); !slices.Equal(l, used) || p != (len(used) == 0) {
			t.Fatalf("%+v uses %v, %v; want %v", d, l, p, used)
		}
		if len(used) == 0 {
			plain++
		}
		if full(d) != before {
			t.Fatalf("%s was changed to %s", before, full(d))
		}
	})
	if plain < 100 || plain > 1400 {
		t.Errorf("%d documents were plain", plain)
	}
}

// TestP13_5Used checks each place in which a revision can occur.
func TestP13_5Used(t *testing.T) {
	for i, m := range []api.Marks{{Ins: 4}, {Dels: []api.Del{{Rev: 4}}}, {Layers: []api.Layer{{Rev: 4, Key: api.KeyTop}}}, {Layers: []api.Layer{{Rev: 4}, {Rev: 4}}}} {
		head := api.Head{Marks: m}
		end := api.Document{End: head}
		for j, d := range []api.Document{
			doc(marked(text("a"), m)), doc(para(), marked(section(), m)), doc(marked(anchor(1, 1), m)), doc(note(1, marked(field("a"), m))), doc(marked(note(1), m)),
			doc(marked(table(1, row(cell(2))), m)), doc(table(1, api.Row{Head: head, Cells: []api.Cell{cell(2)}})), doc(table(1, row(cell(3), api.Cell{Id: 2, Head: head}))),
			doc(table(1, row(cell(2, table(3, row(cell(4, note(5, marked(para(), m))))))))), end,
		} {
			want := []int{4}
			if show(d) == show(end) && i < 2 {
				want = nil // only layers count in End
			}
			if l, p := document.Used(d), document.Plain(d); !slices.Equal(l, want) || p != (len(want) == 0) {
				t.Errorf("%d, %d: Used = %v, Plain = %v", i, j, l, p)
			}
			d.Revs = []api.Rev{{Id: 2, Author: "a"}, {Id: 4, Author: "b"}, {Id: 5, Author: "c"}}
			if got := document.Normal(d).Revs; len(got) != len(want) || len(got) > 0 && got[0] != d.Revs[1] {
				t.Errorf("%d, %d: the normal form has the revisions %+v", i, j, got)
			}
		}
	}
}

func TestP13_6Normal(t *testing.T) {
	d := document.Normal(doc(text("ab"), text("c")))
	if show(d) != show(doc(text("abc"))) {
		t.Errorf("Normal of the chapter's example = %+v", d)
	}
	many(1500, 6, func(r *rand.Rand, d api.Document) {
		before := full(d)
		wants(t, "Normal", document.Normal(d), d, d)
		if full(d) != before {
			t.Fatalf("Normal changed %s to %s", before, full(d))
		}
	})
}

// naiveRenumber gives new ids to the notes, tables and cells of a document.
func naiveRenumber(d api.Document) api.Document {
	next := make(map[int]int)
	for _, p := range parts(d.Flow, 0) {
		if p.id != 0 {
			next[p.id] = len(next) + 1
		}
	}
	d.Flow = rewrite(d.Flow, 0, func(_ int, l []api.Item) []api.Item {
		l = slices.Clone(l)
		for i := range l {
			if l[i].Kind == api.Note || l[i].Kind == api.Table {
				l[i].Id = next[l[i].Id]
			}
		}
		return l
	}, func(item api.Item) api.Item {
		item = run.Clone(flow(item))[0]
		for i := range item.Rows {
			for j := range item.Rows[i].Cells {
				item.Rows[i].Cells[j].Id = next[item.Rows[i].Cells[j].Id]
			}
		}
		return item
	})
	return d
}

func TestP13_6Renumber(t *testing.T) {
	d := doc(table(3, row(cell(5), cell(4))))
	if got := document.Renumber(d); show(got) != show(doc(table(1, row(cell(2), cell(3))))) {
		t.Errorf("Renumber of the chapter's example = %+v", got)
	}
	d = doc(anchor(3, 9), note(8, text("a")), table(7, row(cell(6, table(2, row(cell(5)))), cell(1)), row(cell(3))), anchor(4, 9))
	if got := document.Renumber(d); show(got) != show(doc(anchor(3, 9), note(1, text("a")), table(2, row(cell(3, table(4, row(cell(5)))), cell(6)), row(cell(7))), anchor(4, 9))) {
		t.Errorf("Renumber = %+v", got)
	}
	many(1500, 7, func(r *rand.Rand, d api.Document) {
		before := full(d)
		wants(t, "Renumber", document.Renumber(d), naiveRenumber(d), d)
		if full(d) != before {
			t.Fatalf("Renumber changed %s to %s", before, full(d))
		}
	})
}

func TestP13_6Same(t *testing.T) {
	same := 0
	var last api.Document
	many(1500, 8, func(r *rand.Rand, d api.Document) {
		other := document.Clone(naiveRenumber(d))
		if !document.Same(d, other) || !document.Same(other, d) || !document.Same(d, document.Normal(d)) || !document.Same(d, d) {
			t.Fatalf("Same(%+v, %+v) = false", d, other)
		}
		want := show(naiveNormal(naiveRenumber(d))) == show(naiveNormal(naiveRenumber(last)))
		if want {
			same++
		}
		if document.Same(d, last) != want {
			t.Fatalf("Same(%+v, %+v) = %v", d, last, !want)
		}
		last = d
	})
	if same > 100 {
		t.Errorf("%d neighbours were the same", same)
	}
	if document.Same(doc(anchor(3, 1)), doc(anchor(3, 2))) || document.Same(doc(note(1), text("a")), doc(text("a"), note(1))) {
		t.Error("Same of different documents is true")
	}
}

// sample returns a document in which all slices have elements.
func sample() api.Document {
	head := func() api.Head {
		return api.Head{Props: []api.Prop{{Key: 2, Value: 1}, {Key: 5, Value: 20}}, Marks: api.Marks{Ins: 1, Move: 2, Dels: []api.Del{{Rev: 3, Move: 4}, {Rev: 5}}, Layers: []api.Layer{{Rev: 6, Key: 7, Before: 8, Had: true}, {Rev: 9}}}}
	}
	inner := func() api.Item { return api.Item{Kind: api.Field, Code: 3, Id: 4, Text: "inner", Head: head()} }
	cells := []api.Cell{{Id: 5, Head: head(), Flow: flow(inner())}, {Id: 6}}
	return api.Document{
		Flow: flow(api.Item{Kind: api.Table, Code: 1, Id: 2, Text: "outer", Head: head(), Flow: flow(inner(), para()), Rows: []api.Row{{Head: head(), Cells: cells}, {}}}, para()),
		End:  head(),
		Revs: []api.Rev{{Id: 1, Author: "Ann", Time: 3}, {Id: 2}},
		Settings: api.Settings{
			Styles:   []api.Style{{Id: 1, Kind: 2, Name: "style", Base: 3, Next: 4, Props: []api.Prop{{Key: 2, Value: 1}, {Key: 5, Value: 20}}}, {Id: 2}},
			Lists:    []api.List{{Id: 1, Levels: []api.Level{{Format: 1, Start: 2, Template: "%1", Restart: 3}, {}}}, {Id: 2}},
			Comments: []api.Comment{{Id: 1, Parent: 2, Author: "Bob", Time: 4, Text: "text", Done: true}, {Id: 2}},
			Vars:     []api.Var{{Name: "a", Value: "b"}, {Name: "c"}},
		},
	}
}

// variants calls a function each time that one number, string, bool or length in a value is different.
func variants(v reflect.Value, differs func()) {
	turn := func(to any) {
		old := reflect.ValueOf(v.Interface())
		v.Set(reflect.ValueOf(to).Convert(v.Type()))
		differs()
		v.Set(old)
	}
	switch v.Kind() {
	case reflect.Int:
		turn(v.Int() + 1)
	case reflect.Bool:
		turn(!v.Bool())
	case reflect.String:
		turn(v.String() + "a")
	case reflect.Struct:
		for i := range v.NumField() {
			variants(v.Field(i), differs)
		}
	case reflect.Slice:
		for i := range v.Len() {
			variants(v.Index(i), differs)
		}
		if n := v.Len(); n > 0 {
			turn(v.Slice(0, n-1).Interface())
		}
	}
}

func TestP13_7Equal(t *testing.T) {
	a, b := sample(), sample()
	count := 0
	for _, d := range []*api.Document{&a, &b} {
		variants(reflect.ValueOf(d).Elem(), func() {
			count++
			if document.Equal(a, b) {
				t.Errorf("Equal(%+v, %+v) = true", a, b)
			}
		})
	}
	if count < 250 || !document.Equal(a, b) {
		t.Errorf("%d changes, and then %v", count, document.Equal(a, b))
	}
	empty := api.Document{Flow: flow(), End: api.Head{Props: []api.Prop{}, Marks: api.Marks{Dels: []api.Del{}, Layers: []api.Layer{}}}, Revs: []api.Rev{}, Settings: api.Settings{Styles: []api.Style{}, Lists: []api.List{}, Comments: []api.Comment{}, Vars: []api.Var{}}}
	if !document.Equal(empty, api.Document{}) || !document.Equal(api.Document{}, empty) {
		t.Error("nil and empty slices are not equal")
	}
	a.Settings.Styles[1].Props, a.Settings.Lists[1].Levels = []api.Prop{}, []api.Level{}
	if !document.Equal(a, b) || !document.Equal(b, a) {
		t.Error("nil and empty slices of styles and lists are not equal")
	}
	many(500, 9, func(r *rand.Rand, d api.Document) {
		other := samples.Document(r.IntN)
		if document.Equal(d, other) != (show(d) == show(other)) {
			t.Fatalf("Equal(%+v, %+v) = %v", d, other, document.Equal(d, other))
		}
	})
}

func TestP13_7Clone(t *testing.T) {
	check := func(d api.Document) {
		before := full(d)
		if got := document.Clone(d); show(got) != show(d) || !document.Equal(got, d) || !samples.Apart(d, got) || full(d) != before {
			t.Fatalf("Clone(%+v) = %+v", d, got)
		}
	}
	check(sample())
	check(api.Document{})
	many(500, 10, func(r *rand.Rand, d api.Document) { check(d) })
}

func TestP13_8Consequences(t *testing.T) {
	many(600, 11, func(r *rand.Rand, d api.Document) {
		normal, renumbered := document.Normal(d), document.Renumber(d)
		if !document.Equal(document.Normal(normal), normal) || !document.Equal(document.Renumber(renumbered), renumbered) || !document.Equal(document.Renumber(normal), renumbered) {
			t.Fatalf("Normal or Renumber of %+v applied twice is another document", d)
		}
		if u := document.Units(d); document.Units(normal) != u || document.Units(renumbered) != u {
			t.Fatalf("Normal or Renumber of %+v changes the number of units", d)
		}
		if document.Check(normal) != api.OK || document.Check(renumbered) != api.OK {
			t.Fatalf("a normal form of %+v is not valid", d)
		}
		for _, id := range document.Flows(d) {
			l, _ := document.Flow(d, id)
			if got, ok := document.SetFlow(d, id, l); !ok || !document.Equal(got, normal) {
				t.Fatalf("SetFlow(%+v, %d) = %+v, %v", d, id, got, ok)
			}
			l = slices.DeleteFunc(l, func(api.Item) bool { return r.IntN(3) == 0 })
			if e := document.Check(withFlow(d, id, l)); e != api.OK {
				t.Fatalf("Check of %+v with the subsequence %+v of the flow %d = %d", d, l, id, e)
			}
			if got, _ := document.SetFlow(d, id, l); document.Check(got) != api.OK {
				t.Fatalf("SetFlow with a subsequence = %+v, which is not valid", got)
			}
		}
		for _, id := range document.Tables(d) {
			item, _ := document.Table(d, id)
			if got, ok := document.SetTable(d, id, item.Rows); !ok || !document.Equal(got, normal) {
				t.Fatalf("SetTable(%+v, %d) = %+v, %v", d, id, got, ok)
			}
		}
	})
}

// TestP13Long checks that documents of the greatest size are handled in a reasonable time.
func TestP13Long(t *testing.T) {
	var l []api.Item
	for i := range api.MaxUnits / 4 {
		l = append(l, text("a"), note(i+1, text("b")), text("c"))
	}
	d := doc(l...)
	if e := document.Check(d); e != api.OK {
		t.Errorf("Check = %d", e)
	}
	got := d
	for id := 1; id < 100; id++ {
		got, _ = document.SetFlow(got, id, flow(text("x")))
		document.Place(got, id)
		document.CheckInsert(got, id, nil)
	}
	if n := document.Units(got); n != api.MaxUnits {
		t.Errorf("%d units", n)
	}
}
