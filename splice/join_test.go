package splice_test

import (
	"math/rand/v2"
	"slices"
	"testing"

	"obelus/api"
	"obelus/document"
	"obelus/samples"
	"obelus/splice"
)

// joins checks the join of two splices, which do not touch if the one that is wanted is nil.
func joins(t *testing.T, what string, a, b api.Splice, want *api.Splice) {
	t.Helper()
	got, touch := splice.Join(a, b)
	if want == nil {
		want = &api.Splice{}
	}
	if show(got) != show(*want) || touch != (want.Kind != 0) {
		t.Errorf("%s: Join = %+v, %v; want %+v", what, got, touch, *want)
	}
	if naive, is := naiveJoin(a, b); is && show(naive) != show(*want) || is != touch {
		t.Errorf("%s: %+v is not what the rules give: %+v", what, *want, naive)
	}
}

func pointer(s api.Splice) *api.Splice { return &s }

func TestP18_7Texts(t *testing.T) {
	for i, c := range []struct {
		s, t api.Splice
		want *api.Splice
	}{
		{letters(1, "", "x"), letters(2, "", "y"), pointer(letters(1, "", "xy"))}, {letters(1, "", "xy"), letters(1, "x", ""), pointer(letters(1, "", "y"))}, {letters(1, "", "x"), letters(1, "x", ""), pointer(letters(1, "", ""))}, {letters(1, "", "x"), letters(1, "", "y"), pointer(letters(1, "", "yx"))},
		{letters(1, "", "x"), letters(3, "", "y"), nil}, {letters(1, "", "x"), letters(0, "", "y"), nil}, {letters(1, "bc", ""), letters(0, "a", ""), pointer(letters(0, "abc", ""))}, {letters(1, "bc", ""), letters(1, "d", ""), pointer(letters(1, "bcd", ""))}, {letters(2, "c", ""), letters(0, "a", ""), nil},
		{letters(1, "bc", ""), letters(0, "ad", ""), pointer(letters(0, "abcd", ""))}, {letters(1, "bc", "xyz"), letters(0, "axyzd", "q"), pointer(letters(0, "abcd", "q"))}, {letters(1, "bc", "xyz"), letters(2, "y", ""), pointer(letters(1, "bc", "xz"))}, {letters(1, "bc", "xyz"), letters(2, "y", "uv"), pointer(letters(1, "bc", "xuvz"))}, {letters(1, "bc", "xyz"), letters(3, "zd", "uv"), pointer(letters(1, "bcd", "xyuv"))},
		{letters(1, "bc", "xyz"), letters(0, "ax", ""), pointer(letters(0, "abc", "yz"))}, {letters(1, "bc", "xyz"), letters(4, "de", ""), pointer(letters(1, "bcde", "xyz"))}, {letters(1, "bc", "xyz"), letters(5, "e", ""), nil}, {letters(3, "", "\u00e9"), letters(4, "\u00e9", "x"), pointer(letters(3, "\u00e9", "\u00e9x"))}, {letters(0, "", "\u00e9\u00e8"), letters(1, "\u00e8", ""), pointer(letters(0, "", "\u00e9"))},
		{items(1, nil, flow(bold("x"))), letters(2, "", "y"), pointer(items(1, nil, flow(bold("x"), text("y"))))}, {items(1, flow(bold("a"), para()), flow(text("x"), bold("y"))), items(2, flow(bold("y"), comment(1)), flow(text("z"))), pointer(items(1, flow(bold("a"), para(), comment(1)), flow(text("xz"))))},
		{letters(1, "", ""), letters(1, "", ""), pointer(letters(1, "", ""))}, {letters(1, "", ""), letters(2, "", ""), nil},
	} {
		joins(t, show(i), c.s, c.t, c.want)
		other := c.t
		other.Id = 4
		joins(t, show(i)+" in another flow", c.s, other, nil)
	}
}

func TestP18_7Tables(t *testing.T) {
	rows := func(at int, old, new []api.Row) api.Splice {
		return api.Splice{Kind: api.SpliceRows, Id: 10, At: at, Old: api.Piece{Rows: old}, New: api.Piece{Rows: new}}
	}
	cells := func(at, sub int, old, new []api.Cell) api.Splice {
		return api.Splice{Kind: api.SpliceCells, Id: 10, At: at, Sub: sub, Old: api.Piece{Cells: old}, New: api.Piece{Cells: new}}
	}
	r := func(ids ...int) (l []api.Row) {
		for _, id := range ids {
			l = append(l, row(cell(id, text("a"))))
		}
		return l
	}
	c := func(ids ...int) (l []api.Cell) {
		for _, id := range ids {
			l = append(l, cell(id, text("a")))
		}
		return l
	}
	joins(t, "rows", rows(1, r(1, 2), r(3, 4, 5)), rows(3, r(5, 6), r(7)), pointer(rows(1, r(1, 2, 6), r(3, 4, 7))))
	joins(t, "rows before", rows(1, r(1), r(2)), rows(0, r(3, 2, 4), nil), pointer(rows(0, r(3, 1, 4), nil)))
	joins(t, "rows elsewhere", rows(1, r(1), r(2)), rows(3, r(3), nil), nil)
	joins(t, "cells", cells(2, 1, c(1, 2), c(3, 4, 5)), cells(2, 3, c(5, 6), c(7)), pointer(cells(2, 1, c(1, 2, 6), c(3, 4, 7))))
	joins(t, "cells before", cells(2, 1, c(1), c(2)), cells(2, 0, c(3, 2, 4), nil), pointer(cells(2, 0, c(3, 1, 4), nil)))
	joins(t, "cells within", cells(2, 1, nil, c(2, 3, 4)), cells(2, 2, c(3), nil), pointer(cells(2, 1, nil, c(2, 4))))
	joins(t, "cells elsewhere", cells(2, 1, c(1), c(2)), cells(2, 3, c(3), nil), nil)
	joins(t, "cells of another row", cells(2, 1, c(1), c(2)), cells(1, 1, c(2), nil), nil)
	joins(t, "rows and cells", rows(1, r(1), r(2)), cells(1, 0, c(2), nil), nil)
}

func TestP18_7Heads(t *testing.T) {
	piece := func(value int) api.Piece {
		return api.Piece{Head: api.Head{Props: []api.Prop{prop(api.KeyShade, value)}}}
	}
	of := func(kind, id, at, sub, old, new int) api.Splice {
		return api.Splice{Kind: kind, Id: id, At: at, Sub: sub, Old: piece(old), New: piece(new)}
	}
	vars := func(name string) api.Piece { return api.Piece{Settings: api.Settings{Vars: []api.Var{{Name: name}}}} }
	set := func(old, new string) api.Splice {
		return api.Splice{Kind: api.SpliceSet, Old: vars(old), New: vars(new)}
	}
	joins(t, "row", of(api.SpliceRow, 1, 2, 0, 3, 4), of(api.SpliceRow, 1, 2, 0, 4, 5), pointer(of(api.SpliceRow, 1, 2, 0, 3, 5)))
	joins(t, "another row", of(api.SpliceRow, 1, 2, 0, 3, 4), of(api.SpliceRow, 1, 3, 0, 4, 5), nil)
	joins(t, "a row of another table", of(api.SpliceRow, 1, 2, 0, 3, 4), of(api.SpliceRow, 2, 2, 0, 4, 5), nil)
	joins(t, "cell", of(api.SpliceCell, 1, 2, 3, 3, 4), of(api.SpliceCell, 1, 2, 3, 4, 3), pointer(of(api.SpliceCell, 1, 2, 3, 3, 3)))
	joins(t, "another cell", of(api.SpliceCell, 1, 2, 3, 3, 4), of(api.SpliceCell, 1, 2, 2, 4, 3), nil)
	joins(t, "a cell of another row", of(api.SpliceCell, 1, 2, 3, 3, 4), of(api.SpliceCell, 1, 1, 3, 4, 3), nil)
	joins(t, "row and cell", of(api.SpliceRow, 1, 2, 0, 3, 4), of(api.SpliceCell, 1, 2, 0, 4, 5), nil)
	joins(t, "end", of(api.SpliceEnd, 0, 0, 0, 3, 4), of(api.SpliceEnd, 0, 0, 0, 4, 5), pointer(of(api.SpliceEnd, 0, 0, 0, 3, 5)))
	joins(t, "settings", set("a", "b"), set("b", "c"), pointer(api.Splice{Kind: api.SpliceSet, Old: vars("a"), New: vars("c")}))
	joins(t, "end and settings", of(api.SpliceEnd, 0, 0, 0, 3, 4), set("b", "c"), nil)
	joins(t, "items and end", letters(0, "", "x"), of(api.SpliceEnd, 0, 0, 0, 3, 4), nil)
}

func TestP18_7Compact(t *testing.T) {
	top := api.Splice{Kind: api.SpliceEnd, New: api.Piece{Head: api.Head{Props: []api.Prop{prop(api.KeyTop, 1)}}}}
	x, y, noX, noY := letters(1, "", "x"), letters(2, "", "y"), letters(1, "x", ""), letters(2, "y", "")
	same := letters(1, "b", "b")
	for i, c := range []struct{ l, want []api.Splice }{
		{nil, nil}, {[]api.Splice{x}, []api.Splice{x}}, {[]api.Splice{x, y}, []api.Splice{letters(1, "", "xy")}}, {[]api.Splice{x, y, noX}, []api.Splice{letters(1, "", "y")}}, {[]api.Splice{x, noX}, nil}, {[]api.Splice{x, y, noY, noX}, nil}, {[]api.Splice{same}, nil}, {[]api.Splice{same, x}, []api.Splice{x}},
		{[]api.Splice{x, top, y}, []api.Splice{x, top, y}}, {[]api.Splice{x, top, splice.Inverse(top), y}, []api.Splice{letters(1, "", "xy")}}, {[]api.Splice{x, top, splice.Inverse(top), noX}, nil}, {[]api.Splice{top, x, noX, splice.Inverse(top), y}, []api.Splice{y}},
		{[]api.Splice{x, letters(5, "", "z"), letters(3, "cd", "")}, []api.Splice{x, letters(3, "cd", "z")}},   // this is behind x: it is joined with z
		{[]api.Splice{x, letters(5, "", "z"), letters(2, "bcd", "")}, []api.Splice{x, letters(2, "bcd", "z")}}, // what is joined is not joined again
	} {
		got := splice.Compact(c.l)
		if show(got) != show(c.want) || show(naiveCompact(c.l)) != show(c.want) {
			t.Errorf("%d: Compact = %+v; want %+v", i, got, c.want)
		}
	}
}

// TestP18_7Many compares the joins of splices with those that the rules give, and with what they lead to.
func TestP18_7Many(t *testing.T) {
	joined, shorter := make(map[int]int), 0
	many(1400, 8, func(r *rand.Rand, d api.Document, _ api.Splice) {
		l, behind := samples.Splices(r.IntN, d, 6, samples.Revs())
		if len(l) == 0 {
			return
		}
		before := show(l)
		for i := 1; i < len(l); i++ {
			start := d
			if i > 1 {
				start = behind[i-2]
			}
			got, touch := splice.Join(l[i-1], l[i])
			want, is := naiveJoin(l[i-1], l[i])
			if touch != is || is && show(got) != show(want) || !is && show(got) != show(api.Splice{}) || !samples.Apart(got, l) {
				t.Fatalf("Join(%+v, %+v) = %+v, %v; want %+v, %v", l[i-1], l[i], got, touch, want, is)
			}
			if !touch {
				continue
			}
			joined[l[i].Kind]++
			if out, e := splice.Apply(start, got, samples.Revs()); e != api.OK || show(out) != show(behind[i]) {
				t.Fatalf("Apply(%+v, %+v) = %+v, %d; want %+v", start, got, out, e, behind[i])
			}
		}
		compact := splice.Compact(l)
		if want := naiveCompact(l); show(compact) != show(want) || !samples.Apart(compact, l) {
			t.Fatalf("Compact(%+v) = %+v; want %+v", l, compact, want)
		}
		if out, _, e := splice.Run(d, compact, samples.Revs()); e != api.OK || show(out) != show(behind[len(behind)-1]) {
			t.Fatalf("Run(%+v, %+v) = %+v, %d; want %+v", d, compact, out, e, behind[len(behind)-1])
		}
		if len(compact) < len(l) {
			shorter++
		}
		if show(l) != before {
			t.Fatalf("%s was changed to %s", before, show(l))
		}
	})
	for kind := api.SpliceItems; kind <= api.SpliceSet; kind++ {
		if joined[kind] < 10 {
			t.Errorf("%d splices of the kind %d were joined", joined[kind], kind)
		}
	}
	if shorter < 150 {
		t.Errorf("%d lists became shorter", shorter)
	}
}

// everything returns a splice in which every field is set.
func everything() api.Splice {
	piece := func() api.Piece {
		head := func() api.Head {
			return api.Head{Props: []api.Prop{prop(1, 2)}, Marks: api.Marks{Ins: 1, Move: 2, Dels: []api.Del{{Rev: 3}}, Layers: []api.Layer{{Rev: 4}}}}
		}
		return api.Piece{
			Items:    flow(api.Item{Kind: 1, Code: 2, Id: 3, Text: "a", Head: head(), Flow: flow(para()), Rows: []api.Row{row(cell(4))}}, para()),
			Rows:     []api.Row{{Head: head(), Cells: []api.Cell{{Id: 1, Head: head(), Flow: flow(note(2))}}}, row(cell(5))},
			Cells:    []api.Cell{{Id: 2, Head: head(), Flow: flow(table(1))}, cell(3)},
			Head:     head(),
			Settings: api.Settings{Styles: []api.Style{{Id: 1, Props: []api.Prop{prop(2, 3)}}}, Lists: []api.List{{Id: 1, Levels: []api.Level{{Format: 1}}}}, Comments: []api.Comment{{Id: 1}}, Vars: []api.Var{{Name: "a"}}},
		}
	}
	return api.Splice{Kind: 9, Id: 1, At: 2, Sub: 3, Old: piece(), New: piece()}
}

func TestP18_8EqualAndClone(t *testing.T) {
	s := everything()
	before := show(s)
	if c := splice.Clone(s); show(c) != before || !samples.Apart(c, s) || !splice.Equal(c, s) || !splice.Equal(s, s) {
		t.Errorf("Clone = %+v", c)
	}
	inPiece := []func(p *api.Piece){
		func(p *api.Piece) { p.Items = p.Items[1:] }, func(p *api.Piece) { p.Items[0].Flow[0].Kind++ }, func(p *api.Piece) { p.Items[0].Rows[0].Cells[0].Id++ }, func(p *api.Piece) { p.Items[0].Text = "b" }, func(p *api.Piece) { p.Items[0].Head.Marks.Layers[0].Had = true },
		func(p *api.Piece) { p.Rows = nil }, func(p *api.Piece) { p.Rows[0].Head.Marks.Ins++ }, func(p *api.Piece) { p.Rows[0].Cells[0].Flow = nil }, func(p *api.Piece) { p.Rows[1].Cells[0].Id++ },
		func(p *api.Piece) { p.Cells = p.Cells[:1] }, func(p *api.Piece) { p.Cells[0].Head.Props[0].Value++ }, func(p *api.Piece) { p.Cells[0].Flow[0].Id++ },
		func(p *api.Piece) { p.Head.Props[0].Key++ }, func(p *api.Piece) { p.Head.Marks.Move++ }, func(p *api.Piece) { p.Head.Marks.Dels[0].Rev++ }, func(p *api.Piece) { p.Head.Marks.Layers = nil },
		func(p *api.Piece) { p.Settings.Styles[0].Props[0].Value++ }, func(p *api.Piece) { p.Settings.Lists[0].Levels[0].Start++ }, func(p *api.Piece) { p.Settings.Comments[0].Done = true }, func(p *api.Piece) { p.Settings.Vars = nil },
	}
	changes := []func(s *api.Splice){func(s *api.Splice) { s.Kind++ }, func(s *api.Splice) { s.Id++ }, func(s *api.Splice) { s.At++ }, func(s *api.Splice) { s.Sub++ }}
	for _, change := range inPiece {
		changes = append(changes, func(s *api.Splice) { change(&s.Old) }, func(s *api.Splice) { change(&s.New) })
	}
	for i, change := range changes {
		c := splice.Clone(s)
		change(&c)
		if splice.Equal(c, s) || splice.Equal(s, c) {
			t.Errorf("%d: Equal", i)
		}
		if show(s) != before {
			t.Fatalf("%d: the copy shares memory", i)
		}
	}
	hollow := api.Piece{Items: flow(), Rows: []api.Row{}, Cells: []api.Cell{}, Head: api.Head{Props: []api.Prop{}}, Settings: api.Settings{Lists: []api.List{}}}
	if empty := (api.Splice{Old: hollow, New: hollow}); !splice.Equal(empty, api.Splice{}) || !splice.Equal(splice.Clone(empty), empty) {
		t.Error("nil and empty slices are different")
	}
	var last api.Splice
	many(1000, 9, func(_ *rand.Rand, _ api.Document, s api.Splice) {
		if c := splice.Clone(s); show(c) != show(s) || !samples.Apart(c, s) || !splice.Equal(c, s) || splice.Equal(s, last) != (show(s) == show(last)) {
			t.Fatalf("Clone(%+v) = %+v", s, c)
		}
		last = s
	})
}

// TestP18_9Back runs splices and then their inverses.
func TestP18_9Back(t *testing.T) {
	long := 0
	many(1200, 10, func(r *rand.Rand, d api.Document, s api.Splice) {
		if twice := splice.Inverse(splice.Inverse(s)); !splice.Equal(twice, s) {
			t.Fatalf("Inverse of Inverse(%+v) = %+v", s, twice)
		}
		more := slices.Clone(d.Revs)
		if r.IntN(2) == 0 { // the way back needs all revisions that occur on it
			more = samples.Revs()
		}
		l, behind := samples.Splices(r.IntN, d, 4, more)
		if len(l) == 0 {
			return
		}
		end := behind[len(behind)-1]
		for _, there := range [][]api.Splice{l, splice.Compact(l)} {
			if out, at, e := splice.Run(end, splice.InverseAll(there), more); e != api.OK || at != len(there) || show(out) != show(document.Normal(d)) {
				t.Fatalf("%+v of %+v and back: %+v, %d", there, d, out, e)
			}
		}
		if out, _, e := splice.Run(d, splice.Compact(slices.Concat(l, splice.InverseAll(l))), more); e != api.OK || show(out) != show(document.Normal(d)) {
			t.Fatalf("%+v and back of %+v: %+v, %d", l, d, out, e)
		}
		if len(l) == 4 {
			long++
		}
	})
	if long < 400 {
		t.Errorf("%d long lists", long)
	}
}

// TestP18_9Large makes splices of a document of the greatest size.
func TestP18_9Large(t *testing.T) {
	var l []api.Item
	for i := range api.MaxUnits / 2 {
		if i%2 == 0 {
			l = append(l, text("ab"))
		} else {
			l = append(l, bold("ab"))
		}
	}
	d := doc(l...)
	got, e := splice.FromEdit(d, api.Edit{Kind: api.EditFormat, Count: api.MaxUnits, Key: api.KeyBold, Value: 1})
	if e != api.OK || len(got) != api.MaxUnits/4 {
		t.Errorf("FromEdit = %d splices, %d", len(got), e)
	}
	all := doc(bold(""))
	for range api.MaxUnits / 2 {
		all.Flow[0].Text += "ab"
	}
	if got, e := splice.Between(d, all); e != api.OK || len(got) != 1 || got[0].At != 0 || len(got[0].New.Items[0].Text) != api.MaxUnits-2 {
		t.Errorf("Between = %d splices, %d", len(got), e)
	}
	var typed []api.Splice
	for i := range 2000 {
		typed = append(typed, letters(i, "", "x"))
	}
	if got := splice.Compact(typed); len(got) != 1 || len(got[0].New.Items[0].Text) != 2000 {
		t.Errorf("Compact = %d splices", len(got))
	}
}
