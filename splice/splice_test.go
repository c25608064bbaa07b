package splice_test

import (
	"math"
	"math/rand/v2"
	"slices"
	"strings"
	"testing"

	"obelus/api"
	"obelus/document"
	"obelus/samples"
	"obelus/splice"
)

// full shows a document and a splice together with what stands behind the ends of some of their slices.
func full(d api.Document, s api.Splice) string {
	return show(d.Flow[:cap(d.Flow)]) + show(d) + show(s) + show(s.Old.Items[:cap(s.Old.Items)]) + show(s.New.Rows[:cap(s.New.Rows)]) + show(s.New.Cells[:cap(s.New.Cells)])
}

// wildSplices returns splices that are not well formed, or not possible.
func wildSplices(d api.Document, number func() int) []api.Splice {
	pieces := []api.Piece{
		{}, {Items: d.Flow}, {Rows: []api.Row{{}, row(cell(0, d.Flow...))}}, {Cells: []api.Cell{cell(-1, d.Flow...), {}}}, {Head: d.End}, {Settings: d.Settings},
		{Items: flow(text("a"), para())}, {Items: flow(text("\xFF"))}, {Rows: []api.Row{row(cell(1))}}, {Cells: []api.Cell{cell(2)}},
		{Items: d.Flow, Rows: []api.Row{{}}, Cells: make([]api.Cell, 2), Head: api.Head{Props: make([]api.Prop, 2)}, Settings: d.Settings},
	}
	var all []api.Splice
	for kind := -1; kind <= 8; kind++ {
		for _, p := range pieces {
			for _, q := range pieces {
				all = append(all, api.Splice{Kind: kind, Id: number(), At: number(), Sub: number(), Old: p, New: q}, api.Splice{Kind: kind, Old: p, New: q})
			}
		}
	}
	return all
}

func TestP1AllArguments(t *testing.T) {
	r := rand.New(rand.NewPCG(18, 1))
	wild := []api.Document{{}, doc(text("\xFF"), para()), doc(note(0, note(0, comment(0)))), doc(table(1), table(1, row()), note(1, table(2, row(cell(1)), row()))), {Flow: flow(api.Item{Kind: 99, Flow: flow(text("a"))}), End: api.Head{Props: []api.Prop{prop(9, 9), prop(-1, 0)}, Marks: api.Marks{Ins: -1, Dels: make([]api.Del, 2)}}}}
	for range 12 {
		wild = append(wild, samples.Wrong(r.IntN), samples.Document(r.IntN))
	}
	numbers := append(samples.Numbers(), 4002, 8003)
	number := func() int { return numbers[r.IntN(len(numbers))] }
	for i, d := range wild {
		splices := wildSplices(d, number)
		for range 30 {
			splices = append(splices, samples.Splice(r.IntN, d, samples.Revs()))
		}
		for j, s := range splices {
			other := splices[r.IntN(len(splices))]
			e := splice.Check(s)
			if old, new := splice.Size(s); e != api.OK && (old != 0 || new != 0) {
				t.Fatalf("%d, %d: Size = %d, %d", i, j, old, new)
			}
			got, f := splice.Apply(d, s, samples.Revs())
			out, at, g := splice.Run(d, []api.Splice{s, other}, samples.Revs())
			if e != api.OK && f != e || f != api.OK && (!isZero(got) || at != 0 || f != g) || g != api.OK && !isZero(out) {
				t.Fatalf("%d, %d: %d; %+v, %d; %+v, %d, %d", i, j, e, got, f, out, at, g)
			}
			if joined, touch := splice.Join(s, other); !touch && show(joined) != show(api.Splice{}) {
				t.Fatalf("%d, %d: Join = %+v", i, j, joined)
			}
			splice.Compact([]api.Splice{s, other, s})
			if !splice.Equal(splice.Inverse(splice.Inverse(s)), s) || !splice.Equal(splice.Clone(s), s) || len(splice.InverseAll([]api.Splice{s, other})) != 2 {
				t.Fatalf("%d, %d: the inverse, or the copy", i, j)
			}
		}
		for range 40 {
			if l, e := splice.FromEdit(d, samples.Edit(r.IntN, d)); e != api.OK && len(l) > 0 {
				t.Fatalf("%d: FromEdit = %+v, %d", i, l, e)
			}
			if l, e := splice.Between(d, wild[r.IntN(len(wild))]); e != api.OK && len(l) > 0 {
				t.Fatalf("%d: Between = %+v, %d", i, l, e)
			}
		}
	}
}

// TestP1Deep nests flows as deeply as the document permits.
func TestP1Deep(t *testing.T) {
	deep := 1 << 16
	tables, notes := samples.Deep(deep)
	for i, l := range [][]api.Item{tables, notes} {
		want := []api.Errno{api.ErrDepth, api.ErrFlow}[i]
		all := items(0, nil, l)
		if old, new := splice.Size(all); old != 0 || new != 3 || splice.Check(all) != api.OK {
			t.Errorf("%d: Size = %d, %d", i, old, new)
		}
		if _, e := splice.Apply(api.Document{}, all, nil); e != want {
			t.Errorf("%d: Apply = %d", i, e)
		}
		back := splice.Inverse(all)
		if got, e := splice.Apply(doc(l...), back, nil); e != api.OK || !isZero(got) {
			t.Errorf("%d: Apply of the inverse = %d", i, e)
		}
		if l := splice.Compact([]api.Splice{all, back}); len(l) > 0 || !splice.Equal(splice.Clone(all), all) {
			t.Errorf("%d: %d splices", i, len(l))
		}
		changed, _ := document.SetFlow(doc(l...), 2-i, flow(text("b"))) // the innermost flow
		if l, e := splice.Between(doc(l...), changed); e != api.OK || len(l) != 1 || l[0].Id != 2-i || len(l[0].Old.Items) > 0 || l[0].New.Items[0].Text != "b" {
			t.Errorf("%d: Between = %d", i, e)
		}
		if l, e := splice.FromEdit(doc(l...), api.Edit{Kind: api.EditDelete, Count: 2}); e != api.OK || len(l) != 1 {
			t.Errorf("%d: FromEdit = %d", i, e)
		}
	}
}

// filled returns splices in which one field is not zero, by the names of the fields.
func filled() map[string]func(s *api.Splice) {
	return map[string]func(s *api.Splice){
		"Id": func(s *api.Splice) { s.Id = -1 }, "At": func(s *api.Splice) { s.At = math.MinInt }, "Sub": func(s *api.Splice) { s.Sub = 1 },
		"Old.Items": func(s *api.Splice) { s.Old.Items = flow(para()) }, "New.Items": func(s *api.Splice) { s.New.Items = flow(para()) },
		"Old.Rows": func(s *api.Splice) { s.Old.Rows = []api.Row{row(cell(0))} }, "New.Rows": func(s *api.Splice) { s.New.Rows = []api.Row{row(cell(0))} },
		"Old.Cells": func(s *api.Splice) { s.Old.Cells = make([]api.Cell, 1) }, "New.Cells": func(s *api.Splice) { s.New.Cells = make([]api.Cell, 1) },
		"Old.Head": func(s *api.Splice) { s.Old.Head.Marks.Move = 1 }, "New.Head": func(s *api.Splice) { s.New.Head.Props = make([]api.Prop, 1) },
		"Old.Settings": func(s *api.Splice) { s.Old.Settings.Vars = make([]api.Var, 1) }, "New.Settings": func(s *api.Splice) { s.New.Settings.Lists = make([]api.List, 1) },
	}
}

func TestP18_1Fields(t *testing.T) {
	for kind := api.SpliceItems; kind <= api.SpliceSet; kind++ {
		fields, _ := fieldsOf(kind)
		for name, set := range filled() {
			s := api.Splice{Kind: kind, Old: api.Piece{Items: flow(), Rows: []api.Row{}, Cells: []api.Cell{}, Head: api.Head{Props: []api.Prop{}, Marks: api.Marks{Dels: []api.Del{}, Layers: []api.Layer{}}}, Settings: api.Settings{Styles: []api.Style{}}}}
			if e := splice.Check(s); e != api.OK {
				t.Errorf("the kind %d with empty slices: %d", kind, e)
			}
			set(&s)
			want := api.ErrFormat
			if slices.Contains(fields, name) {
				want = api.OK
			}
			if e := splice.Check(s); e != want {
				t.Errorf("the kind %d with %s: %d; want %d", kind, name, e, want)
			}
		}
	}
	for i, h := range []api.Head{{Props: make([]api.Prop, 1)}, {Marks: api.Marks{Ins: 1}}, {Marks: api.Marks{Move: 1}}, {Marks: api.Marks{Dels: make([]api.Del, 1)}}, {Marks: api.Marks{Layers: make([]api.Layer, 1)}}} {
		if e := splice.Check(api.Splice{Kind: api.SpliceItems, New: api.Piece{Head: h}}); e != api.ErrFormat {
			t.Errorf("%d: a head that is not used: %d", i, e)
		}
	}
	for i, s := range []api.Settings{{Styles: make([]api.Style, 1)}, {Lists: make([]api.List, 1)}, {Comments: make([]api.Comment, 1)}, {Vars: make([]api.Var, 1)}} {
		if e := splice.Check(api.Splice{Kind: api.SpliceRow, New: api.Piece{Settings: s}}); e != api.ErrFormat {
			t.Errorf("%d: settings that are not used: %d", i, e)
		}
	}
	for _, kind := range []int{math.MinInt, -1, 0, 8, math.MaxInt} {
		if e := splice.Check(api.Splice{Kind: kind, Old: api.Piece{Items: flow(text("\xFF"))}}); e != api.ErrKind {
			t.Errorf("the kind %d: %d", kind, e)
		}
	}
}

func TestP18_1Pieces(t *testing.T) {
	parts := flow(text("a"), text("b"))
	empty := row(cell(1))
	empty.Cells = nil
	odd := api.Item{Kind: api.Para, Flow: parts}
	for i, c := range []struct {
		kind int
		p    api.Piece
		want api.Errno
	}{
		{api.SpliceItems, api.Piece{Items: flow(text("a"), bold("b"), text("c"))}, api.OK}, {api.SpliceItems, api.Piece{Items: parts}, api.ErrFormat}, {api.SpliceItems, api.Piece{Items: flow(text(""))}, api.ErrFormat}, {api.SpliceItems, api.Piece{Items: flow(by(1, text("a")), text("b"))}, api.OK},
		{api.SpliceItems, api.Piece{Items: flow(text("\xFF"))}, api.ErrUTF8}, {api.SpliceItems, api.Piece{Items: flow(text("a"), text("b"), para(), text("\xC3"))}, api.ErrUTF8}, {api.SpliceItems, api.Piece{Items: flow(note(1, text("\xFF")))}, api.OK}, {api.SpliceItems, api.Piece{Items: flow(samples.Field("\xFF"))}, api.OK},
		{api.SpliceItems, api.Piece{Items: flow(note(1, parts...))}, api.ErrFormat}, {api.SpliceItems, api.Piece{Items: flow(odd)}, api.ErrFormat}, {api.SpliceItems, api.Piece{Items: flow(table(1))}, api.ErrFormat}, {api.SpliceItems, api.Piece{Items: flow(table(1, row(cell(2)), empty))}, api.ErrFormat}, {api.SpliceItems, api.Piece{Items: flow(table(1, row(cell(2, note(3, parts...)))))}, api.ErrFormat}, {api.SpliceItems, api.Piece{Items: flow(api.Item{Kind: 99})}, api.OK},
		{api.SpliceRows, api.Piece{Rows: []api.Row{row(cell(1, text("a"))), row(cell(2))}}, api.OK}, {api.SpliceRows, api.Piece{Rows: []api.Row{row(cell(1)), empty}}, api.ErrFormat}, {api.SpliceRows, api.Piece{Rows: []api.Row{row(cell(1), cell(2, parts...))}}, api.ErrFormat}, {api.SpliceRows, api.Piece{Rows: []api.Row{row(cell(1, text("\xFF")))}}, api.OK}, {api.SpliceRows, api.Piece{Rows: []api.Row{row(cell(1, table(2, empty)))}}, api.ErrFormat},
		{api.SpliceCells, api.Piece{Cells: []api.Cell{cell(1), cell(1, text("a"))}}, api.OK}, {api.SpliceCells, api.Piece{Cells: []api.Cell{cell(1), cell(2, parts...)}}, api.ErrFormat}, {api.SpliceCells, api.Piece{Cells: []api.Cell{cell(2, text("\xFF"))}}, api.OK}, {api.SpliceCells, api.Piece{Cells: []api.Cell{cell(2, text(""))}}, api.ErrFormat},
		{api.SpliceRow, api.Piece{Head: api.Head{Props: []api.Prop{prop(9, -1), prop(-1, 9)}}}, api.OK}, {api.SpliceSet, api.Piece{Settings: api.Settings{Vars: []api.Var{{Name: "\xFF"}}}}, api.OK},
	} {
		for j, s := range []api.Splice{{Kind: c.kind, Old: c.p}, {Kind: c.kind, New: c.p}, {Kind: c.kind, Id: -5, At: math.MaxInt, Old: c.p, New: c.p}} {
			if c.kind == api.SpliceSet {
				s.Id, s.At = 0, 0
			}
			if e := splice.Check(s); e != c.want {
				t.Errorf("%d, %d: Check = %d; want %d", i, j, e, c.want)
			}
		}
	}
	unused := api.Piece{Items: flow(text("\xFF")), Cells: make([]api.Cell, 1)}
	for i, c := range []struct {
		old, new api.Piece
		want     api.Errno
	}{
		{api.Piece{Items: parts}, api.Piece{Items: flow(text("\xFF"))}, api.ErrFormat}, {api.Piece{Items: flow(text("\xFF"))}, api.Piece{Items: parts}, api.ErrUTF8}, {api.Piece{Items: flow(text("\xFF"), text(""))}, api.Piece{}, api.ErrUTF8}, {unused, api.Piece{}, api.ErrFormat}, {api.Piece{}, unused, api.ErrFormat},
	} {
		if e := splice.Check(api.Splice{Kind: api.SpliceItems, Old: c.old, New: c.new}); e != c.want {
			t.Errorf("%d: Check = %d; want %d", i, e, c.want)
		}
	}
}

func TestP18_1Size(t *testing.T) {
	for i, c := range []struct {
		s        api.Splice
		old, new int
	}{
		{items(0, nil, nil), 0, 0}, {letters(3, "ab", "\u00e9\U0001F600x"), 2, 3}, {items(0, flow(text("ab"), note(1, text("abc")), para()), nil), 4, 0}, {items(0, nil, flow(text("a"), text("b"))), 0, 0}, {items(0, flow(text("\xFF")), flow(para())), 0, 0},
		{api.Splice{Kind: api.SpliceRows, New: api.Piece{Rows: []api.Row{row(cell(1), cell(2)), row(cell(3))}}}, 0, 2}, {api.Splice{Kind: api.SpliceRows, New: api.Piece{Rows: []api.Row{row()}}}, 0, 0}, {api.Splice{Kind: api.SpliceCells, Old: api.Piece{Cells: make([]api.Cell, 3)}}, 3, 0},
		{api.Splice{Kind: api.SpliceRow}, 1, 1}, {api.Splice{Kind: api.SpliceCell}, 1, 1}, {api.Splice{Kind: api.SpliceEnd}, 1, 1}, {api.Splice{Kind: api.SpliceSet}, 1, 1}, {api.Splice{Kind: api.SpliceSet, At: 1}, 0, 0}, {api.Splice{}, 0, 0}, {api.Splice{Kind: 8}, 0, 0},
	} {
		if old, new := splice.Size(c.s); old != c.old || new != c.new {
			t.Errorf("%d: Size = %d, %d; want %d, %d", i, old, new, c.old, c.new)
		}
	}
	seen := make(map[api.Errno]int)
	many(3000, 2, func(_ *rand.Rand, d api.Document, s api.Splice) {
		want := naiveCheck(s)
		if e := splice.Check(s); e != want {
			t.Fatalf("Check(%+v) = %d; want %d", s, e, want)
		}
		seen[want]++
		m, n := naiveSize(s.Kind, s.Old), naiveSize(s.Kind, s.New)
		if want != api.OK {
			m, n = 0, 0
		}
		if old, new := splice.Size(s); old != m || new != n {
			t.Fatalf("Size(%+v) = %d, %d; want %d, %d", s, old, new, m, n)
		}
	})
	if seen[api.OK] < 1000 || seen[api.ErrFormat] < 20 {
		t.Errorf("the errors %v", seen)
	}
}

// base returns a document with elements of all kinds, and with a revision.
func base() api.Document {
	return api.Document{
		Flow:     flow(text("abcd"), comment(1), para(), note(1, by(1, text("n"))), table(10, row(cell(11, text("x")), cell(12)), row(cell(13))), text("end")),
		Revs:     []api.Rev{{Id: 1, Author: "a"}, {Id: 5, Author: "unused"}},
		Settings: api.Settings{Vars: []api.Var{{Name: "v"}}},
	}
}

// possible returns a splice of each kind that is possible in the base document.
func possible() map[int]api.Splice {
	header, shade, top := api.Head{Props: []api.Prop{prop(api.KeyHeader, 1)}}, api.Head{Props: []api.Prop{prop(api.KeyShade, 1)}}, api.Head{Props: []api.Prop{prop(api.KeyTop, 1)}}
	splices := make(map[int]api.Splice)
	for i, s := range []api.Splice{
		letters(1, "bc", "xyz"),
		{Id: 10, At: 1, Old: api.Piece{Rows: []api.Row{row(cell(13))}}, New: api.Piece{Rows: []api.Row{row(cell(20)), row(cell(21), cell(13))}}},
		{Id: 10, Sub: 1, Old: api.Piece{Cells: []api.Cell{cell(12)}}, New: api.Piece{Cells: []api.Cell{cell(20, text("y"))}}},
		{Id: 10, At: 1, New: api.Piece{Head: header}}, {Id: 10, Sub: 1, New: api.Piece{Head: shade}}, {New: api.Piece{Head: top}},
		{Old: api.Piece{Settings: base().Settings}, New: api.Piece{Settings: api.Settings{Vars: []api.Var{{Name: "w"}}}}},
	} {
		s.Kind = i + 1
		splices[s.Kind] = s
	}
	return splices
}

// step makes a splice, or the revisions that it can use, wrong in one place.
type step struct {
	what string
	want api.Errno
	do   func(s *api.Splice, revs *[]api.Rev)
}

func wrong(what string, want api.Errno, do func(s *api.Splice)) step {
	return step{what, want, func(s *api.Splice, _ *[]api.Rev) { do(s) }}
}

// checkOrder applies a splice to the base document with each one, and with each two, of some steps, of which the first ones are found first.
func checkOrder(t *testing.T, kind int, steps ...step) {
	t.Helper()
	check := func(what string, want api.Errno, applied ...step) {
		t.Helper()
		s, more := splice.Clone(possible()[kind]), []api.Rev{{Id: 1, Author: "a"}, {Id: 7, Author: "b"}}
		for _, step := range applied {
			step.do(&s, &more)
		}
		if got, e := splice.Apply(base(), s, more); e != want || (e == api.OK) == isZero(got) {
			t.Errorf("%d with %s: %d; want %d", kind, what, e, want)
		}
	}
	all := append([]step{
		wrong("an unknown kind", api.ErrKind, func(s *api.Splice) { s.Kind = 8 }),
		wrong("fields of several kinds", api.ErrFormat, func(s *api.Splice) {
			s.Old.Rows, s.Old.Cells = append(s.Old.Rows, row()), append(s.Old.Cells, cell(0, text("")))
		}),
		wrong("a text that is not valid", api.ErrUTF8, func(s *api.Splice) { s.New.Items = append(s.New.Items, text("\xFF")) }),
		{"another revision with a known id", api.ErrRevision, func(_ *api.Splice, revs *[]api.Rev) { (*revs)[0].Id = 5 }},
	}, steps...)
	if kind != api.SpliceItems {
		all = slices.Delete(all, 2, 3)
	}
	check("nothing", api.OK)
	for i, first := range all {
		check(first.what, first.want, first)
		for _, second := range all[i+1:] {
			check(first.what+" and "+second.what, first.want, second, first)
		}
	}
}

func TestP18_2Order(t *testing.T) {
	noId := wrong("no flow or table", api.ErrNotFound, func(s *api.Splice) { s.Id = 99 })
	at := func(at int) step { return wrong("no place", api.ErrRange, func(s *api.Splice) { s.At = at }) }
	sub := func(sub int) step { return wrong("no cell", api.ErrRange, func(s *api.Splice) { s.Sub = sub }) }
	oldHead := wrong("another head", api.ErrConflict, func(s *api.Splice) { s.Old.Head.Marks.Ins = 1 })
	newHead := wrong("a wrong head", api.ErrKey, func(s *api.Splice) { s.New.Head.Props = []api.Prop{prop(api.KeyBold, 1)} })
	checkOrder(t, api.SpliceItems, noId, at(10), wrong("other items", api.ErrConflict, func(s *api.Splice) { s.Old.Items[0].Text = "bd" }), wrong("an unknown revision", api.ErrRevision, func(s *api.Splice) { s.New.Items[0].Head.Marks.Ins = 3 }))
	empty := wrong("nothing", api.ErrEmpty, func(s *api.Splice) { s.At, s.Sub, s.New = 0, 0, api.Piece{} })
	allRows := wrong("all rows", api.ErrEmpty, func(s *api.Splice) { s.Old.Rows, s.New.Rows, s.At = base().Flow[4].Rows, nil, 0 })
	checkOrder(t, api.SpliceRows, noId, at(2), wrong("other rows", api.ErrConflict, func(s *api.Splice) { s.Old.Rows[0].Cells[0].Id = 14 }), wrong("a cell with an id in use", api.ErrDuplicate, func(s *api.Splice) { s.New.Rows[0].Cells[0].Id = 11 }))
	checkOrder(t, api.SpliceRows, noId, allRows)
	checkOrder(t, api.SpliceCells, noId, at(2), sub(2), wrong("other cells", api.ErrConflict, func(s *api.Splice) { s.Old.Cells[0].Head.Marks.Ins = 1 }), wrong("a cell without an id", api.ErrId, func(s *api.Splice) { s.New.Cells[0].Id = 0 }))
	checkOrder(t, api.SpliceCells, noId, wrong("all cells", api.ErrEmpty, func(s *api.Splice) { s.Old.Cells, s.New.Cells, s.Sub = base().Flow[4].Rows[0].Cells, nil, 0 }))
	checkOrder(t, api.SpliceCells, noId, wrong("all cells of another row", api.ErrConflict, func(s *api.Splice) { empty.do(s, nil) }))
	checkOrder(t, api.SpliceRow, noId, at(2), oldHead, newHead)
	checkOrder(t, api.SpliceCell, noId, at(-1), sub(2), oldHead, newHead)
	checkOrder(t, api.SpliceEnd, oldHead, newHead)
	checkOrder(t, api.SpliceSet, wrong("other settings", api.ErrConflict, func(s *api.Splice) { s.Old.Settings.Vars[0].Value = "x" }), wrong("a wrong name", api.ErrName, func(s *api.Splice) { s.New.Settings.Vars[0].Name = "" }))
}

func TestP18_2Places(t *testing.T) {
	n := func(at int, old, new string, id int) api.Splice {
		s := letters(at, old, new)
		s.Id = id
		return s
	}
	cells := func(at, sub int, old, new []api.Cell) api.Splice {
		return api.Splice{Kind: api.SpliceCells, Id: 10, At: at, Sub: sub, Old: api.Piece{Cells: old}, New: api.Piece{Cells: new}}
	}
	one := []api.Cell{cell(20)}
	for i, c := range []struct {
		s    api.Splice
		want api.Errno
	}{
		{letters(0, "", "x"), api.OK}, {letters(4, "", "x"), api.OK}, {letters(11, "", "x"), api.OK}, {letters(12, "", "x"), api.ErrRange}, {letters(-1, "", "x"), api.ErrRange}, {letters(math.MaxInt, "a", "x"), api.ErrRange}, {letters(math.MinInt, "a", "x"), api.ErrRange},
		{letters(0, "abcd", ""), api.OK}, {letters(3, "d", "dd"), api.OK}, {letters(3, "de", ""), api.ErrConflict}, {letters(8, "end", ""), api.OK}, {letters(8, "ende", ""), api.ErrRange}, {items(1, flow(bold("b")), nil), api.ErrConflict}, {items(1, flow(by(1, text("b"))), nil), api.ErrConflict},
		{items(3, flow(text("d"), comment(1), para()), nil), api.OK}, {items(4, flow(comment(2)), nil), api.ErrConflict}, {items(6, flow(note(1, by(1, text("n")))), nil), api.OK}, {items(6, flow(note(1, text("n"))), nil), api.ErrConflict},
		{n(0, "", "x", 11), api.OK}, {n(0, "x", "", 11), api.OK}, {n(0, "", "x", 12), api.OK}, {n(1, "", "x", 12), api.ErrRange}, {n(0, "", "x", 10), api.ErrNotFound}, {n(0, "", "x", -1), api.ErrNotFound}, {n(0, "n", "x", 1), api.ErrConflict},
		{cells(0, 0, nil, one), api.OK}, {cells(0, 2, nil, one), api.OK}, {cells(0, 3, nil, one), api.ErrRange}, {cells(0, -1, nil, one), api.ErrRange}, {cells(1, 1, nil, one), api.OK}, {cells(1, 1, []api.Cell{cell(13)}, one), api.ErrRange}, {cells(2, 0, nil, one), api.ErrRange}, {cells(-1, 0, nil, one), api.ErrRange}, {cells(0, math.MaxInt, nil, one), api.ErrRange},
		{cells(1, 0, []api.Cell{cell(13)}, one), api.OK}, {cells(1, 0, []api.Cell{cell(13)}, nil), api.ErrEmpty}, {cells(0, 1, []api.Cell{cell(12)}, nil), api.OK}, {cells(0, 0, nil, nil), api.OK}, {cells(0, 0, nil, make([]api.Cell, 30)), api.ErrId}, {cells(0, 0, nil, make([]api.Cell, 31)), api.ErrLimit},
		{api.Splice{Kind: api.SpliceRows, Id: 10, At: 2, New: api.Piece{Rows: []api.Row{row(one...)}}}, api.OK}, {api.Splice{Kind: api.SpliceRows, Id: 10, At: 3, New: api.Piece{Rows: []api.Row{row(one...)}}}, api.ErrRange}, {api.Splice{Kind: api.SpliceRows, Id: 11, New: api.Piece{Rows: []api.Row{row(one...)}}}, api.ErrNotFound}, {api.Splice{Kind: api.SpliceRows, Id: 10, At: math.MaxInt, Old: api.Piece{Rows: []api.Row{row(one...)}}}, api.ErrRange},
		{api.Splice{Kind: api.SpliceRow, Id: 10, At: 1}, api.OK}, {api.Splice{Kind: api.SpliceRow, Id: 10, At: 2}, api.ErrRange}, {api.Splice{Kind: api.SpliceRow}, api.ErrNotFound}, {api.Splice{Kind: api.SpliceCell, Id: 10, At: 1}, api.OK}, {api.Splice{Kind: api.SpliceCell, Id: 10, At: 1, Sub: 1}, api.ErrRange}, {api.Splice{Kind: api.SpliceCell, Id: 10, Sub: -1}, api.ErrRange},
		{items(0, nil, flow(text(strings.Repeat("a", api.MaxUnits-13)))), api.OK}, {items(0, nil, flow(text(strings.Repeat("a", api.MaxUnits-12)))), api.ErrLimit}, {items(0, nil, flow(note(10))), api.ErrDuplicate}, {items(0, flow(text("a")), flow(note(2, note(3)))), api.ErrFlow}, {items(0, nil, flow(api.Item{Kind: 9})), api.ErrKind}, {items(0, nil, flow(bold("a"), by(5, text("b")))), api.OK},
	} {
		got, e := splice.Apply(base(), c.s, nil)
		want, f := naiveApply(base(), c.s, nil)
		if e != c.want || e != f || show(got) != show(want) {
			t.Errorf("%d: Apply = %+v, %d; want %+v, %d or %d", i, got, e, want, c.want, f)
		}
	}
}

// TestP18_2Revisions looks at the revisions of documents behind splices.
func TestP18_2Revisions(t *testing.T) {
	rev := func(id int, author string) api.Rev { return api.Rev{Id: id, Author: author} }
	own := []api.Rev{rev(2, "a"), rev(4, "b"), rev(6, "c")}
	d := api.Document{Flow: flow(by(4, text("ab")), para()), Revs: own}
	end := api.Splice{Kind: api.SpliceEnd}
	for i, c := range []struct {
		s    api.Splice
		revs []api.Rev
		want []api.Rev
		e    api.Errno
	}{
		{letters(3, "", "x"), nil, []api.Rev{rev(4, "b")}, api.OK}, {items(0, flow(by(4, text("ab"))), nil), nil, nil, api.OK}, {items(0, nil, flow(by(2, para()))), nil, own[:2], api.OK}, {items(0, nil, flow(by(6, para()))), []api.Rev{rev(6, "c")}, own[1:], api.OK}, {items(0, nil, flow(by(6, para()))), []api.Rev{rev(6, "C")}, nil, api.ErrRevision},
		{letters(3, "", "x"), []api.Rev{rev(9, "x"), rev(9, "y"), {Id: -1}, {}, {Id: 2, Author: "a"}}, []api.Rev{rev(4, "b")}, api.OK}, {letters(3, "", "x"), []api.Rev{rev(2, "")}, nil, api.ErrRevision}, {letters(3, "", "x"), []api.Rev{{Id: 4, Author: "b", Time: 1}}, nil, api.ErrRevision}, {letters(9, "", "x"), []api.Rev{{Id: 4, Author: "b", Time: 1}}, nil, api.ErrRevision},
		{items(0, nil, flow(by(5, text("x")))), []api.Rev{rev(9, "x"), rev(5, "y"), rev(5, "z"), rev(3, "w")}, []api.Rev{rev(4, "b"), rev(5, "y")}, api.OK}, {items(0, nil, flow(by(5, text("x")), by(3, text("y")), by(9, para()))), []api.Rev{rev(9, "x"), rev(5, "y"), rev(3, "w")}, []api.Rev{rev(3, "w"), rev(4, "b"), rev(5, "y"), rev(9, "x")}, api.OK},
		{items(0, nil, flow(by(5, text("x")))), nil, nil, api.ErrRevision}, {items(0, nil, flow(by(5, text("x")))), []api.Rev{rev(5, "")}, nil, api.ErrAuthor}, {items(0, nil, flow(by(-5, text("x")))), []api.Rev{rev(-5, "a")}, nil, api.ErrId}, {items(0, nil, flow(by(5, text("x")))), []api.Rev{{Id: 5, Author: "a", Time: -1}}, nil, api.ErrTime},
		{items(0, nil, flow(api.Item{Kind: api.Para, Head: api.Head{Marks: api.Marks{Dels: []api.Del{{Rev: 5}}, Layers: []api.Layer{{Rev: 6, Key: api.KeyBold}}}}})), []api.Rev{rev(5, "y")}, []api.Rev{rev(4, "b"), rev(5, "y"), rev(6, "c")}, api.OK},
		{end, []api.Rev{rev(5, "y")}, []api.Rev{rev(4, "b")}, api.OK}, {withEnd(api.Marks{Layers: []api.Layer{{Rev: 5, Key: api.KeyTop}}}), []api.Rev{rev(5, "y")}, []api.Rev{rev(4, "b"), rev(5, "y")}, api.OK}, {withEnd(api.Marks{Ins: 5}), []api.Rev{rev(5, "y")}, nil, api.ErrMark}, {withEnd(api.Marks{Ins: 5}), nil, nil, api.ErrRevision}, {withEnd(api.Marks{Ins: 2}), nil, nil, api.ErrMark}, {withEnd(api.Marks{Dels: []api.Del{{Rev: 5}}}), []api.Rev{rev(5, "y")}, nil, api.ErrMark}, {withEnd(api.Marks{Dels: []api.Del{{Rev: 6}}}), nil, nil, api.ErrMark}, {withEnd(api.Marks{Dels: []api.Del{{Rev: 5}}}), []api.Rev{rev(5, "")}, nil, api.ErrAuthor},
	} {
		got, e := splice.Apply(d, c.s, c.revs)
		if e != c.e || show(got.Revs) != show(c.want) || e != api.OK && !isZero(got) {
			t.Errorf("%d: Apply = %+v, %d; want %+v, %d", i, got.Revs, e, c.want, c.e)
		}
		if len(got.Revs) > 0 && !samples.Apart(got, d, c.revs) {
			t.Errorf("%d: the revisions share memory", i)
		}
	}
	full := doc(by(300, para()))
	for id := range api.MaxRevs {
		full.Revs = append(full.Revs, rev(id+100, "a"))
	}
	if _, e := splice.Apply(full, items(0, nil, flow(by(9, para()))), []api.Rev{rev(9, "b")}); e != api.OK {
		t.Errorf("a revision more, of which few are used: %d", e)
	}
	for _, r := range full.Revs {
		full.Flow = append(full.Flow, by(r.Id, para()))
	}
	if _, e := splice.Apply(full, items(0, nil, flow(by(9, para()))), []api.Rev{rev(9, "b")}); e != api.ErrLimit {
		t.Errorf("a revision too much: %d", e)
	}
}

// withEnd returns the splice that gives marks to the head of the last section.
func withEnd(m api.Marks) api.Splice {
	return api.Splice{Kind: api.SpliceEnd, New: api.Piece{Head: api.Head{Marks: m}}}
}

// TestP18_2Many compares the documents behind splices with those that the rules give unit by unit.
func TestP18_2Many(t *testing.T) {
	seen := make(map[[2]int]int)
	many(8000, 3, func(_ *rand.Rand, d api.Document, s api.Splice) {
		before := full(d, s)
		got, e := splice.Apply(d, s, samples.Revs())
		want, f := naiveApply(d, s, samples.Revs())
		if e != f || show(got) != show(want) {
			t.Fatalf("Apply(%+v, %+v) = %+v, %d; want %+v, %d", d, s, got, e, want, f)
		}
		seen[[2]int{s.Kind, int(e)}]++
		if e == api.OK && (!samples.Apart(got, d, s) || document.Check(got) != api.OK || show(document.Normal(got)) != show(got)) {
			t.Fatalf("Apply(%+v, %+v) = %+v", d, s, got)
		}
		if full(d, s) != before {
			t.Fatalf("%s was changed to %s", before, full(d, s))
		}
	})
	for kind := api.SpliceItems; kind <= api.SpliceSet; kind++ {
		if seen[[2]int{kind, int(api.OK)}] < 100 {
			t.Errorf("%d splices of the kind %d were possible", seen[[2]int{kind, int(api.OK)}], kind)
		}
	}
	for _, c := range [][2]int{{1, int(api.ErrConflict)}, {1, int(api.ErrRange)}, {1, int(api.ErrNotFound)}, {1, int(api.ErrFormat)}, {2, int(api.ErrEmpty)}, {3, int(api.ErrEmpty)}, {2, int(api.ErrConflict)}, {5, int(api.ErrRange)}, {6, int(api.ErrMark)}, {7, int(api.ErrConflict)}} {
		if seen[c] < 5 {
			t.Errorf("splices of the kind %d had the error %d %d times", c[0], c[1], seen[c])
		}
	}
}

// TestP18_2Loose applies splices to documents that are not in normal form: what is there counts in normal form.
func TestP18_2Loose(t *testing.T) {
	loose := doc(text("a"), text("b"), table(1, row(cell(2, text("c"), text("d")), cell(3))), note(4, text("e"), text("f")))
	rows, cells := api.Piece{Rows: []api.Row{row(cell(2, text("cd")), cell(3))}}, api.Piece{Cells: []api.Cell{cell(2, text("cd"))}}
	for i, s := range []api.Splice{
		items(0, flow(text("ab"), table(1, rows.Rows...), note(4, text("ef"))), nil), {Kind: api.SpliceRows, Id: 1, Old: rows, New: api.Piece{Rows: []api.Row{row(cell(5))}}}, {Kind: api.SpliceCells, Id: 1, Old: cells}, letters(1, "b", "c"),
	} {
		got, e := splice.Apply(loose, s, nil)
		want, f := splice.Apply(document.Normal(loose), s, nil)
		if e != api.OK || f != api.OK || show(got) != show(want) {
			t.Errorf("%d: Apply = %+v, %d; want %+v, %d", i, got, e, want, f)
		}
	}
}

func TestP18_3Run(t *testing.T) {
	d := doc(text("a"), text("bc"))
	d.Revs = []api.Rev{{Id: 3, Author: "c"}}
	tracked := items(1, nil, flow(by(3, para())))
	for i, c := range []struct {
		l    []api.Splice
		revs []api.Rev
		want []api.Item
		at   int
		e    api.Errno
	}{
		{nil, nil, flow(text("abc")), 0, api.OK}, {[]api.Splice{letters(1, "b", ""), letters(2, "", "x")}, nil, flow(text("acx")), 2, api.OK}, {[]api.Splice{letters(1, "b", ""), letters(1, "b", ""), {}}, nil, nil, 1, api.ErrConflict}, {[]api.Splice{{}}, nil, nil, 0, api.ErrKind}, {[]api.Splice{letters(3, "", "x"), letters(4, "", "y"), letters(6, "", "z")}, nil, nil, 2, api.ErrRange},
		{[]api.Splice{tracked}, nil, flow(text("a"), by(3, para()), text("bc")), 1, api.OK},                                                                                                              // the revision of the document that no mark had
		{[]api.Splice{letters(3, "", "x"), tracked}, nil, nil, 1, api.ErrRevision},                                                                                                                       // it is gone behind the first splice
		{[]api.Splice{letters(3, "", "x"), tracked}, slices.Clone(d.Revs), flow(text("a"), by(3, para()), text("bcx")), 2, api.OK}, {[]api.Splice{tracked}, []api.Rev{{Id: 3}}, nil, 0, api.ErrRevision}, // another one
	} {
		out, at, e := splice.Run(d, c.l, c.revs)
		if show(out.Flow) != show(c.want) || at != c.at || e != c.e || e != api.OK && !isZero(out) || e == api.OK && !samples.Apart(out, d, c.l, c.revs) {
			t.Errorf("%d: Run = %+v, %d, %d", i, out, at, e)
		}
	}
	if out, at, e := splice.Run(d, nil, nil); len(out.Revs) > 0 || at != 0 || e != api.OK {
		t.Errorf("Run = %+v, %d, %d", out, at, e)
	}
	whole := 0
	many(600, 4, func(r *rand.Rand, d api.Document, s api.Splice) {
		want, failed := d, api.OK
		var l []api.Splice
		for len(l) < 4 && failed == api.OK {
			l = append(l, s)
			want, failed = naiveApply(want, s, samples.Revs())
			s = samples.Splice(r.IntN, want, samples.Revs())
		}
		at := len(l)
		if failed != api.OK {
			at--
		} else {
			whole++
		}
		before := show(d) + show(l)
		out, got, e := splice.Run(d, l, samples.Revs())
		if show(out) != show(want) || got != at || e != failed {
			t.Fatalf("Run(%+v, %+v) = %+v, %d, %d; want %+v, %d, %d", d, l, out, got, e, want, at, failed)
		}
		if show(d)+show(l) != before {
			t.Fatalf("%s was changed to %s", before, show(d)+show(l))
		}
	})
	if whole < 100 {
		t.Errorf("%d lists of splices were possible", whole)
	}
}

func TestP18_4Inverse(t *testing.T) {
	s := letters(1, "bc", "xyz")
	s.Id, s.Sub = 4, 5
	if got := splice.Inverse(s); got.Id != 4 || got.At != 1 || got.Sub != 5 || show(got.Old) != show(s.New) || show(got.New) != show(s.Old) {
		t.Errorf("Inverse = %+v", got)
	}
	l := []api.Splice{letters(0, "a", "b"), letters(1, "c", "d"), {Kind: 99, Old: api.Piece{Items: flow(text("\xFF"))}}}
	if got := splice.InverseAll(l); len(got) != 3 || show(got[0]) != show(splice.Inverse(l[2])) || show(got[2]) != show(splice.Inverse(l[0])) {
		t.Errorf("InverseAll = %+v", got)
	}
	if got := splice.InverseAll(nil); len(got) > 0 {
		t.Errorf("InverseAll of nothing = %+v", got)
	}
	many(2000, 5, func(r *rand.Rand, d api.Document, s api.Splice) {
		before := full(d, s)
		inverse := splice.Inverse(s)
		want := s
		want.Old, want.New = s.New, s.Old
		l := []api.Splice{s, samples.Splice(r.IntN, d, samples.Revs())}
		all := splice.InverseAll(l)
		if show(inverse) != show(want) || show(all[1]) != show(want) || show(all[0]) != show(splice.Inverse(l[1])) || !samples.Apart(inverse, s) || !samples.Apart(all, l) {
			t.Fatalf("Inverse(%+v) = %+v", s, inverse)
		}
		if full(d, s) != before {
			t.Fatalf("%s was changed to %s", before, full(d, s))
		}
	})
}
