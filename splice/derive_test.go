package splice_test

import (
	"math/rand/v2"
	"testing"

	"obelus/api"
	"obelus/document"
	"obelus/edit"
	"obelus/property"
	"obelus/samples"
	"obelus/splice"
)

// plain returns a document without marks, with elements of all kinds.
func plain() api.Document {
	d := base()
	d.Flow[3] = note(1, text("n"))
	d.Revs = nil
	return d
}

// derives checks the splices of an edit of a document.
func derives(t *testing.T, what string, d api.Document, e api.Edit, want ...api.Splice) {
	t.Helper()
	got, err := splice.FromEdit(d, e)
	if err != api.OK || show(got) != show(want) {
		t.Errorf("%s: FromEdit = %+v, %d; want %+v", what, got, err, want)
	}
	if show(want) != show(naiveFromEdit(d, e)) {
		t.Errorf("%s: %+v is not what the rules give", what, want)
	}
	if out, at, err := splice.Run(d, got, nil); err != api.OK || at != len(got) {
		t.Errorf("%s: Run = %d, %d", what, at, err)
	} else if behind, _ := edit.Apply(d, e); show(out) != show(behind) {
		t.Errorf("%s: Run = %+v; want %+v", what, out, behind)
	}
}

func TestP18_5Flows(t *testing.T) {
	abcd, anchored := doc(text("abcd")), doc(text("ab"), comment(1), text("cd"), comment(2), comment(3), para())
	derives(t, "insert", abcd, api.Edit{Kind: api.EditInsert, At: 2, Items: flow(text("x"), text("y"))}, letters(2, "", "xy"))
	derives(t, "insert what is there", abcd, api.Edit{Kind: api.EditInsert, At: 2, Items: flow(text("c"))}, letters(2, "", "c"))
	derives(t, "delete", abcd, api.Edit{Kind: api.EditDelete, At: 1, Count: 2}, letters(1, "bc", ""))
	derives(t, "delete around anchors", anchored, api.Edit{Kind: api.EditDelete, At: 1, Count: 7}, items(7, flow(para()), nil), letters(3, "cd", ""), letters(1, "b", ""))
	derives(t, "delete anchors only", anchored, api.Edit{Kind: api.EditDelete, At: 5, Count: 2})
	derives(t, "format", abcd, api.Edit{Kind: api.EditFormat, At: 1, Count: 2, Key: api.KeyBold, Value: 1}, items(1, flow(text("bc")), flow(bold("bc"))))
	derives(t, "format what has it", doc(text("a"), bold("bc"), text("d"), para(), text("e")), api.Edit{Kind: api.EditFormat, Count: 6, Key: api.KeyBold, Value: 1},
		items(0, flow(text("a")), flow(bold("a"))), items(3, flow(text("d"), para(), text("e")), flow(bold("d"), para(prop(api.KeyBold, 1)), bold("e"))))
	derives(t, "format nothing", doc(bold("a"), comment(1), bold("b")), api.Edit{Kind: api.EditFormat, Count: 3, Key: api.KeyBold, Value: 1})
	derives(t, "clear", doc(bold("a"), text("b"), comment(1), bold("c")), api.Edit{Kind: api.EditFormat, Count: 4, Key: api.KeyBold, Clear: true}, items(0, flow(bold("a")), flow(text("a"))), items(3, flow(bold("c")), flow(text("c"))))
	derives(t, "move right", abcd, api.Edit{Kind: api.EditMove, Count: 2, ToAt: 3}, letters(0, "ab", ""), letters(1, "", "ab"))
	derives(t, "move left", abcd, api.Edit{Kind: api.EditMove, At: 2, Count: 2, ToAt: 1}, letters(2, "cd", ""), letters(1, "", "cd"))
	derives(t, "move around anchors", anchored, api.Edit{Kind: api.EditMove, At: 1, Count: 4, ToAt: 7}, letters(3, "cd", ""), letters(1, "b", ""), letters(4, "", "bcd"))
	inCell := letters(1, "", "ab")
	inCell.Id = 11
	derives(t, "move into a cell", plain(), api.Edit{Kind: api.EditMove, Count: 2, To: 11, ToAt: 1}, letters(0, "ab", ""), inCell)
	derives(t, "move a note", plain(), api.Edit{Kind: api.EditMove, At: 6, Count: 1, Fresh: 30}, items(6, flow(note(1, text("n"))), nil), items(0, nil, flow(note(30, text("n")))))
	derives(t, "put-anchor", abcd, api.Edit{Kind: api.EditPutAnchor, At: 4, Items: flow(comment(2))}, items(4, nil, flow(comment(2))))
	derives(t, "drop-anchor", anchored, api.Edit{Kind: api.EditDropAnchor, At: 2}, items(2, flow(comment(1)), nil))
}

func TestP18_5Tables(t *testing.T) {
	d := plain()
	rows := d.Flow[4].Rows
	of := func(kind, at, sub int, old, new api.Piece) api.Splice {
		return api.Splice{Kind: kind, Id: 10, At: at, Sub: sub, Old: old, New: new}
	}
	none := api.Piece{}
	head := func(key, value int) api.Piece { return api.Piece{Head: api.Head{Props: []api.Prop{prop(key, value)}}} }
	loose, tight := row(cell(20, text("a"), text("b")), cell(21)), row(cell(20, text("ab")), cell(21))
	derives(t, "insert-rows", d, api.Edit{Kind: api.EditInsertRows, Flow: 10, At: 1, Rows: []api.Row{loose}}, of(api.SpliceRows, 1, 0, none, api.Piece{Rows: []api.Row{tight}}))
	derives(t, "insert-cells", d, api.Edit{Kind: api.EditInsertCells, Flow: 10, Sub: 2, Cells: loose.Cells}, of(api.SpliceCells, 0, 2, none, api.Piece{Cells: tight.Cells}))
	derives(t, "delete-rows", d, api.Edit{Kind: api.EditDeleteRows, Flow: 10, At: 1, Count: 1}, of(api.SpliceRows, 1, 0, api.Piece{Rows: rows[1:]}, none))
	derives(t, "delete all rows", d, api.Edit{Kind: api.EditDeleteRows, Flow: 10, Count: 2}, items(7, flow(d.Flow[4]), nil))
	derives(t, "delete-cells", d, api.Edit{Kind: api.EditDeleteCells, Flow: 10, Sub: 1, Count: 1}, of(api.SpliceCells, 0, 1, api.Piece{Cells: rows[0].Cells[1:]}, none))
	derives(t, "delete all cells of a row", d, api.Edit{Kind: api.EditDeleteCells, Flow: 10, At: 1, Count: 1}, of(api.SpliceRows, 1, 0, api.Piece{Rows: rows[1:]}, none))
	single := doc(note(5, text("ab"), table(10, row(cell(11), cell(12)))))
	inNote := items(2, flow(table(10, row(cell(11), cell(12)))), nil)
	inNote.Id = 5
	derives(t, "delete all cells of a table", single, api.Edit{Kind: api.EditDeleteCells, Flow: 10, Count: 2}, inNote)
	derives(t, "delete the only row", single, api.Edit{Kind: api.EditDeleteRows, Flow: 10, Count: 1}, inNote)
	derives(t, "format-row", d, api.Edit{Kind: api.EditFormatRow, Flow: 10, At: 1, Key: api.KeyHeader, Value: 1}, of(api.SpliceRow, 1, 0, none, head(api.KeyHeader, 1)))
	derives(t, "format-row that changes nothing", d, api.Edit{Kind: api.EditFormatRow, Flow: 10, At: 1, Key: api.KeyHeader, Clear: true})
	derives(t, "format-cell", d, api.Edit{Kind: api.EditFormatCell, Flow: 10, Sub: 1, Key: api.KeyShade, Value: 7}, of(api.SpliceCell, 0, 1, none, head(api.KeyShade, 7)))
	derives(t, "format-cell that changes nothing", d, api.Edit{Kind: api.EditFormatCell, Flow: 10, Sub: 1, Key: api.KeyShade, Clear: true})
	derives(t, "format-end", d, api.Edit{Kind: api.EditFormatEnd, Key: api.KeyTop, Value: 7}, api.Splice{Kind: api.SpliceEnd, New: head(api.KeyTop, 7)})
	derives(t, "format-end that changes nothing", d, api.Edit{Kind: api.EditFormatEnd, Key: api.KeyTop, Clear: true})
	other := api.Settings{Vars: []api.Var{{Name: "w"}}}
	derives(t, "settings", d, api.Edit{Kind: api.EditSettings, Settings: other}, api.Splice{Kind: api.SpliceSet, Old: api.Piece{Settings: d.Settings}, New: api.Piece{Settings: other}})
	derives(t, "settings that change nothing", d, api.Edit{Kind: api.EditSettings, Settings: d.Settings})
}

// TestP18_5Many compares the splices of edits with those that the rules give unit by unit, and what both lead to.
func TestP18_5Many(t *testing.T) {
	r := rand.New(rand.NewPCG(18, 6))
	possible, none := make(map[int]int), 0
	for i := range 14000 {
		d := samples.Plain(r.IntN)
		e := samples.Edit(r.IntN, d)
		if l := samples.Units(d.Flow); i%7 == 0 && len(l) > 0 {
			at := r.IntN(len(l))
			e = api.Edit{Kind: api.EditFormat, At: at, Count: 1 + r.IntN(len(l)-at), Key: []int{api.KeyBold, api.KeySize, api.KeyAlign}[r.IntN(3)], Clear: r.IntN(2) == 0}
			if !e.Clear {
				e.Value, _, _ = property.Bounds(e.Key)
			}
		}
		before := show(d) + show(e)
		got, err := splice.FromEdit(d, e)
		if want := edit.Check(d, e); err != want || err != api.OK && len(got) > 0 {
			t.Fatalf("FromEdit(%+v, %+v) = %+v, %d; want %d", d, e, got, err, want)
		}
		if show(d)+show(e) != before {
			t.Fatalf("%s was changed to %s", before, show(d)+show(e))
		}
		if err != api.OK {
			continue
		}
		possible[e.Kind]++
		if want := naiveFromEdit(d, e); show(got) != show(want) || !samples.Apart(got, d, e) {
			t.Fatalf("FromEdit(%+v, %+v) = %+v; want %+v", d, e, got, want)
		}
		if len(got) == 0 {
			none++
		}
		want, _ := edit.Apply(d, e)
		if out, _, f := splice.Run(d, got, nil); f != api.OK || show(out) != show(want) {
			t.Fatalf("%+v of %+v: Run(%+v) = %+v, %d; want %+v", e, d, got, out, f, want)
		}
	}
	for kind := api.EditInsert; kind <= api.EditSettings; kind++ {
		if possible[kind] < 20 {
			t.Errorf("%d edits of the kind %d were possible", possible[kind], kind)
		}
	}
	if none < 20 {
		t.Errorf("%d edits had no splices", none)
	}
	marked := base()
	if l, e := splice.FromEdit(marked, api.Edit{Kind: api.EditDelete, Count: 1}); len(l) > 0 || e != api.ErrMark {
		t.Errorf("FromEdit of a document with marks = %+v, %d", l, e)
	}
}

// leads checks the splices between two documents.
func leads(t *testing.T, what string, a, b api.Document, want ...api.Splice) {
	t.Helper()
	got, e := splice.Between(a, b)
	naive, _ := naiveBetween(a, b)
	if e != api.OK || show(got) != show(want) || show(naive) != show(want) {
		t.Errorf("%s: Between = %+v, %d; want %+v or %+v", what, got, e, want, naive)
	}
	if out, _, e := splice.Run(a, got, b.Revs); e != api.OK || show(out) != show(document.Normal(b)) {
		t.Errorf("%s: Run = %+v, %d", what, out, e)
	}
}

func TestP18_6Flows(t *testing.T) {
	leads(t, "equal", base(), base())
	leads(t, "other revisions", base(), document.Normal(base()))
	leads(t, "not in normal form", doc(text("a"), text("b")), doc(text("ab")))
	leads(t, "replace", doc(text("abcd")), doc(text("axyzd")), letters(1, "bc", "xyz"))
	leads(t, "insert", doc(text("abc")), doc(text("abxc")), letters(2, "", "x"))
	leads(t, "the first units count first", doc(text("aaa")), doc(text("aaaa")), letters(3, "", "a"))
	leads(t, "and do not count twice", doc(text("abab")), doc(text("ab")), letters(2, "ab", ""))
	leads(t, "units of several items", doc(text("ab"), para(), text("cd")), doc(text("a"), bold("b"), para(), text("xd")), items(1, flow(text("b"), para(), text("c")), flow(bold("b"), para(), text("x"))))
	leads(t, "heads", doc(text("abc")), api.Document{Flow: flow(text("a"), by(1, text("b")), text("c")), Revs: samples.Revs()}, items(1, flow(text("b")), flow(by(1, text("b")))))
	leads(t, "everything", doc(text("a")), doc(), letters(0, "a", ""))
	leads(t, "an item", doc(para()), doc(samples.Break(api.Tab)), items(0, flow(para()), flow(samples.Break(api.Tab))))
}

func TestP18_6Notes(t *testing.T) {
	inNote := func(at int, old, new string) api.Splice {
		s := letters(at, old, new)
		s.Id = 1
		return s
	}
	a := doc(text("a"), note(1, text("xy")), text("b"))
	with := func(item api.Item) api.Document { return doc(text("a"), item, text("b")) }
	endnote, styled := note(1, text("xyz")), note(1, text("xyz"))
	endnote.Code, styled.Head.Props = api.Endnote, []api.Prop{prop(api.KeyBold, 1)}
	leads(t, "a note", a, with(note(1, text("xyz"))), inNote(2, "", "z"))
	leads(t, "another note", a, with(note(2, text("xyz"))), items(1, a.Flow[1:2], flow(note(2, text("xyz")))))
	leads(t, "an endnote", a, with(endnote), items(1, a.Flow[1:2], flow(endnote)))
	leads(t, "a note with another head", a, with(styled), items(1, a.Flow[1:2], flow(styled)))
	leads(t, "a note and a text", a, doc(text("a"), note(1, text("xyz")), text("c")), items(1, a.Flow[1:], flow(note(1, text("xyz")), text("c"))))
	leads(t, "a text before a note", a, doc(text("c"), note(1), text("b")), items(0, a.Flow[:2], flow(text("c"), note(1))))
	leads(t, "a note twice as long", doc(note(1, text("x")), note(2)), doc(note(1), note(2), note(3)), items(0, flow(note(1, text("x")), note(2)), flow(note(1), note(2), note(3))))
	leads(t, "the last one of some notes", doc(note(1, text("x")), note(2, text("y"))), doc(note(2, text("y"))), items(0, flow(note(1, text("x"))), nil))
}

func TestP18_6Tables(t *testing.T) {
	of := func(kind, at, sub int, old, new api.Piece) api.Splice {
		return api.Splice{Kind: kind, Id: 10, At: at, Sub: sub, Old: old, New: new}
	}
	rows := func(l ...api.Row) api.Piece { return api.Piece{Rows: l} }
	cells := func(l ...api.Cell) api.Piece { return api.Piece{Cells: l} }
	wide, high := row(cell(1, text("a")), cell(2, text("b")), cell(3, text("c"))), row(cell(4))
	a := doc(table(10, wide, high))
	with := func(l ...api.Row) api.Document { return doc(table(10, l...)) }
	headed := high
	headed.Head.Props = []api.Prop{prop(api.KeyHeader, 1)}
	shaded := cell(2, text("x"))
	shaded.Head.Props = []api.Prop{prop(api.KeyShade, 1)}
	inCell := letters(0, "b", "x")
	inCell.Id = 2
	leads(t, "a text in a cell", a, with(row(wide.Cells[0], cell(2, text("x")), wide.Cells[2]), high), inCell)
	leads(t, "a cell with another id", a, with(row(wide.Cells[0], cell(9, text("b")), wide.Cells[2]), high), of(api.SpliceCells, 0, 1, cells(wide.Cells[1]), cells(cell(9, text("b")))))
	leads(t, "a cell with another head", a, with(row(wide.Cells[0], shaded, wide.Cells[2]), high), of(api.SpliceCells, 0, 1, cells(wide.Cells[1]), cells(shaded)))
	leads(t, "a cell more", a, with(wide, row(cell(4), cell(5))), of(api.SpliceCells, 1, 1, cells(), cells(cell(5))))
	leads(t, "a cell less", a, with(row(wide.Cells[0], wide.Cells[2]), high), of(api.SpliceCells, 0, 1, cells(wide.Cells[1]), cells()))
	leads(t, "two cells", a, with(row(cell(1), cell(2), wide.Cells[2]), high), of(api.SpliceCells, 0, 0, cells(wide.Cells[:2]...), cells(cell(1), cell(2))))
	leads(t, "a row more", a, with(row(cell(9)), wide, high), of(api.SpliceRows, 0, 0, rows(), rows(row(cell(9)))))
	leads(t, "a row less", a, with(high), of(api.SpliceRows, 0, 0, rows(wide), rows()))
	leads(t, "a row with another head", a, with(wide, headed), of(api.SpliceRows, 1, 0, rows(high), rows(headed)))
	leads(t, "two rows", a, with(row(cell(1)), row(cell(4, para()))), of(api.SpliceRows, 0, 0, rows(wide, high), rows(row(cell(1)), row(cell(4, para())))))
	leads(t, "another table", a, doc(table(11, wide, row(cell(4, para())))), items(0, a.Flow, flow(table(11, wide, row(cell(4, para()))))))
	other := with(wide, row(cell(4, para())))
	other.Flow[0].Head.Props = []api.Prop{prop(api.KeyTableWidth, 5)}
	leads(t, "a table with another head", a, other, items(0, a.Flow, other.Flow))
	deep := letters(1, "", "y")
	deep.Id = 22
	inner := func(s string) api.Document {
		return doc(para(), table(10, high, row(cell(1, text("a"), table(20, row(cell(21), cell(22, text(s))), row(cell(23)))))))
	}
	leads(t, "a table in a table", inner("x"), inner("xy"), deep)
}

func TestP18_6Rest(t *testing.T) {
	top := api.Head{Props: []api.Prop{prop(api.KeyTop, 1)}}
	end := api.Splice{Kind: api.SpliceEnd, New: api.Piece{Head: top}}
	settings := api.Settings{Styles: []api.Style{{Id: 1, Kind: api.ParaStyle, Name: "A"}}}
	leads(t, "the end", api.Document{}, api.Document{End: top}, end)
	leads(t, "the end and the body", doc(text("a")), api.Document{Flow: flow(text("b")), End: top}, end, letters(0, "a", "b"))
	leads(t, "settings", doc(text("a")), api.Document{Flow: flow(text("a")), Settings: settings}, api.Splice{Kind: api.SpliceSet, New: api.Piece{Settings: settings}})
	for i, c := range []struct {
		b    api.Document
		want api.Errno
	}{
		{api.Document{Flow: flow(text("b")), Settings: settings}, api.ErrConflict}, {api.Document{Flow: flow(text("a")), End: top, Settings: settings}, api.ErrConflict}, {api.Document{Flow: flow(text("a")), Revs: samples.Revs(), Settings: settings}, api.OK}, {api.Document{Flow: flow(text("b")), End: top}, api.OK},
		{api.Document{Flow: flow(text("a")), Settings: api.Settings{Vars: []api.Var{{Name: "v"}}}}, api.OK}, {api.Document{Flow: flow(text("a"), para()), Settings: api.Settings{Lists: make([]api.List, 1)}}, api.ErrConflict}, {api.Document{Flow: flow(text("")), Settings: api.Settings{Comments: []api.Comment{}}}, api.OK},
	} {
		if l, e := splice.Between(doc(text("a")), c.b); e != c.want || e != api.OK && len(l) > 0 {
			t.Errorf("%d: Between = %+v, %d; want %d", i, l, e, c.want)
		}
	}
}

// TestP18_6Many compares the splices between documents, and between their parts, with those that the rules give.
func TestP18_6Many(t *testing.T) {
	kinds, conflicts := make(map[int]int), 0
	check := func(a, b api.Document) {
		before := show(a) + show(b)
		got, e := splice.Between(a, b)
		want, f := naiveBetween(a, b)
		if e != f || show(got) != show(want) || !samples.Apart(got, a, b) {
			t.Fatalf("Between(%+v, %+v) = %+v, %d; want %+v, %d", a, b, got, e, want, f)
		}
		if show(a)+show(b) != before {
			t.Fatalf("%s was changed to %s", before, show(a)+show(b))
		}
		if e != api.OK {
			conflicts++
			return
		}
		for _, s := range got {
			kinds[s.Kind]++
		}
		if out, _, g := splice.Run(a, got, b.Revs); g != api.OK || show(out) != show(document.Normal(b)) {
			t.Fatalf("Run(%+v, %+v) = %+v, %d; want %+v", a, got, out, g, b)
		}
	}
	many(3000, 7, func(r *rand.Rand, d api.Document, s api.Splice) {
		b, e := splice.Apply(d, s, samples.Revs())
		if e != api.OK {
			return
		}
		check(d, b)
		check(b, d)
		if c, e := splice.Apply(b, samples.Splice(r.IntN, b, samples.Revs()), samples.Revs()); e == api.OK {
			check(d, c)
		}
	})
	for kind, least := range map[int]int{api.SpliceItems: 1000, api.SpliceRows: 50, api.SpliceCells: 50, api.SpliceEnd: 50, api.SpliceSet: 50} {
		if kinds[kind] < least {
			t.Errorf("%d splices of the kind %d", kinds[kind], kind)
		}
	}
	if conflicts < 20 || kinds[api.SpliceRow]+kinds[api.SpliceCell] > 0 {
		t.Errorf("%d conflicts, and the kinds %v", conflicts, kinds)
	}
}
