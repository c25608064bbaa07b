package resolve_test

import (
	"math"
	"math/rand/v2"
	"slices"
	"testing"

	"obelus/api"
	"obelus/document"
	"obelus/mark"
	"obelus/resolve"
	"obelus/samples"
)

func isEmpty(d api.Document) bool { return show(d) == show(api.Document{}) }

func TestP1AllArguments(t *testing.T) {
	r := rand.New(rand.NewPCG(24, 1))
	wild := api.Head{Props: []api.Prop{prop(9, 9), prop(-1, 1)}, Marks: api.Marks{Ins: -1, Move: -1, Dels: make([]api.Del, 20), Layers: make([]api.Layer, 70)}}
	all := []api.Document{{}, doc(table(1)), doc(table(1, row()), table(2, row(), row(cell(3)))), doc(text(""), text("\xFF")), {Flow: flow(api.Item{Head: wild}, note(0, section()), api.Item{Kind: 9, Flow: flow(text("a")), Rows: []api.Row{{}, row(cell(1))}}), End: wild}}
	for range 300 {
		d := samples.Wrong(r.IntN)
		d.End.Marks = wild.Marks
		all = append(all, d, samples.Document(r.IntN))
	}
	numbers := append(samples.Numbers(), 4002, 8003)
	number := func() int { return numbers[r.IntN(len(numbers))] }
	done := make(map[bool]int)
	for i, d := range all {
		for range 10 {
			c := decision([]int{number(), number()}[r.IntN(2):], []int{number(), number()}[r.IntN(3):])
			got, e := resolve.Resolve(d, c)
			if e != api.OK && !isEmpty(got) {
				t.Fatalf("%d: Resolve = %+v, %d", i, got, e)
			}
			done[e == api.OK]++
			if got, e := resolve.Accept(d, c.Accept); e != api.OK && !isEmpty(got) {
				t.Fatalf("%d: Accept = %+v, %d", i, got, e)
			}
			if got, e := resolve.Reject(d, c.Accept); e != api.OK && !isEmpty(got) {
				t.Fatalf("%d: Reject = %+v, %d", i, got, e)
			}
			if got, e := resolve.Visible(d, number()); e != api.OK && len(got) > 0 {
				t.Fatalf("%d: Visible = %v, %d", i, got, e)
			}
			if got, e := resolve.Rows(d, number()); e != api.OK && len(got) > 0 {
				t.Fatalf("%d: Rows = %v, %d", i, got, e)
			}
			if got, e := resolve.Cells(d, number(), number()); e != api.OK && len(got) > 0 {
				t.Fatalf("%d: Cells = %v, %d", i, got, e)
			}
		}
		resolve.Original(d)
		resolve.Final(d)
		resolve.Shown(d)
	}
	if done[true] < 200 || done[false] < 200 {
		t.Errorf("%v were resolved", done)
	}
}

// TestP1Deep nests flows as deeply as the document permits.
func TestP1Deep(t *testing.T) {
	deep := 1 << 16
	tables, notes := samples.Deep(deep)
	for i, l := range [][]api.Item{tables, notes} {
		d := doc(l...)
		if got := resolve.Final(d); !document.Equal(got, document.Normal(d)) {
			t.Errorf("%d: Final is wrong", i)
		}
		inner := []int{2, 1}[i]
		marked, _ := document.SetFlow(d, inner, flow(item(text("x"), deleted(3)), item(para(), inserted(5))))
		if got := resolve.Original(marked); document.Units(got) != deep*3+1 {
			t.Errorf("%d: Original has %d units", i, document.Units(got))
		}
		if got, e := resolve.Resolve(marked, decision([]int{3}, []int{5})); e != api.OK || document.Units(got) != deep*3 {
			t.Errorf("%d: Resolve leaves %d units, %d", i, document.Units(got), e)
		}
		if got := resolve.Shown(marked); len(got) != deep+1 {
			t.Errorf("%d: %d flows are shown", i, len(got))
		}
		if got, e := resolve.Visible(marked, inner); show(got) != "[false true]" || e != api.OK {
			t.Errorf("%d: Visible = %v, %d", i, got, e)
		}
	}
	if got, e := resolve.Rows(doc(tables...), 1); show(got) != "[true]" || e != api.OK {
		t.Errorf("Rows = %v, %d", got, e)
	}
}

// example is the document of the chapter's first example.
func example() api.Document {
	return doc(text("ab"), item(text("cd"), inserted(3)), item(text("e"), deleted(5)), para())
}

func TestP24_1Items(t *testing.T) {
	a, b, x := text("a"), text("b"), item(text("x"), api.Marks{Ins: 3, Move: 2, Dels: []api.Del{{Rev: 5}}})
	kinds := flow(text("a"), para(), section(), samples.Break(api.Tab), samples.Field("page"), note(1, text("n")), samples.Anchor(api.CommentStart, 1), table(2, row(cell(3))))
	type test struct {
		l              []api.Item
		accept, reject []int
		want           []api.Item
	}
	tests := []test{
		{example().Flow, nil, nil, example().Flow}, {example().Flow, []int{3}, nil, flow(text("abcd"), example().Flow[2], para())}, {example().Flow, nil, []int{3}, flow(text("ab"), example().Flow[2], para())}, {example().Flow, []int{5}, []int{3}, flow(text("ab"), para())}, {example().Flow, []int{3}, []int{5}, flow(text("abcde"), para())}, {example().Flow, []int{1, 4}, []int{2, 7, 9}, example().Flow},
		{flow(a, x, b), nil, []int{3}, flow(text("ab"))}, {flow(a, x, b), []int{5}, nil, flow(text("ab"))}, {flow(a, x, b), []int{3}, []int{5}, flow(text("axb"))}, {flow(a, x, b), []int{3}, nil, flow(a, item(text("x"), deleted(5)), b)}, {flow(a, x, b), nil, []int{5}, flow(a, item(text("x"), api.Marks{Ins: 3, Move: 2}), b)},
		// texts that only become equal are joined
		{flow(a, item(text("b", prop(api.KeyBold, 1)), revised(3, api.KeyBold, 0))), []int{3}, nil, flow(a, text("b", prop(api.KeyBold, 1)))}, {flow(text("a", prop(api.KeyBold, 0)), item(text("b", prop(api.KeyBold, 1)), revised(3, api.KeyBold, 0))), nil, []int{3}, flow(text("ab", prop(api.KeyBold, 0)))},
		// what is inside of a note is decided, too, and disappears with it
		{flow(item(note(1, item(a, deleted(5)), b), inserted(3))), []int{5}, nil, flow(item(note(1, b), inserted(3)))}, {flow(item(note(1, item(a, deleted(5)), b), inserted(3))), []int{3}, []int{5}, flow(note(1, text("ab")))}, {flow(a, item(note(1, item(b, inserted(5))), inserted(3)), b), []int{5}, []int{3}, flow(text("ab"))}, {flow(note(1, item(a, deleted(5)))), []int{5}, nil, flow(note(1))},
		{flow(table(1, row(cell(2, note(3, item(a, inserted(3)), b))))), nil, []int{3}, flow(table(1, row(cell(2, note(3, b)))))},
	}
	for i := range kinds {
		tests = append(tests, test{flow(item(kinds[i], deleted(3)), b), []int{3}, nil, flow(b)}, test{flow(item(kinds[i], deleted(3)), b), nil, []int{3}, document.Normal(doc(kinds[i], b)).Flow}, test{flow(item(kinds[i], inserted(7)), b), nil, []int{7}, flow(b)})
	}
	for i, c := range tests {
		got, e := resolve.Resolve(doc(c.l...), decision(c.accept, c.reject))
		if want := document.Normal(doc(c.want...)); show(got) != show(want) || e != api.OK {
			t.Errorf("%d: Resolve(%+v, %v, %v) = %+v, %d; want %+v", i, c.l, c.accept, c.reject, got, e, want)
		}
	}
}

func TestP24_1Tables(t *testing.T) {
	none := api.Marks{}
	two := func(a, b api.Marks) api.Item { return table(1, aRow(a, cell(2)), aRow(b, cell(3))) }
	cells := func(m, a, b api.Marks) api.Item { return table(1, aRow(m, aCell(cell(2), a), aCell(cell(3), b))) }
	inner := func(m api.Marks) api.Item { return table(1, row(cell(2, table(3, aRow(m, cell(4)))))) }
	for i, c := range []struct {
		item           api.Item
		accept, reject []int
		want           []api.Item
	}{
		{two(deleted(5), none), []int{5}, nil, flow(table(1, row(cell(3))))}, {two(deleted(5), none), nil, []int{5}, flow(two(none, none))}, {two(deleted(5), deleted(5)), []int{5}, nil, nil}, {two(deleted(5), deleted(3)), []int{5}, nil, flow(table(1, aRow(deleted(3), cell(3))))}, {two(inserted(5), inserted(3)), nil, []int{3, 5}, nil}, {two(inserted(5), deleted(3)), []int{3}, []int{5}, nil}, {two(inserted(5), none), nil, []int{5}, flow(table(1, row(cell(3))))},
		{cells(none, deleted(5), none), []int{5}, nil, flow(table(1, row(cell(3))))}, {cells(none, none, inserted(5)), nil, []int{5}, flow(table(1, row(cell(2))))}, {cells(none, deleted(5), deleted(3)), []int{3}, nil, flow(table(1, row(aCell(cell(2), deleted(5)))))}, {cells(none, deleted(5), deleted(3)), []int{3, 5}, nil, nil}, {cells(inserted(7), deleted(5), deleted(3)), []int{3, 5, 7}, nil, nil}, {cells(inserted(7), deleted(5), none), []int{5}, []int{7}, nil}, {cells(inserted(7), deleted(5), none), []int{7}, nil, flow(cells(none, deleted(5), none))},
		{item(two(none, none), deleted(5)), []int{5}, nil, nil}, {item(two(none, deleted(3)), deleted(5)), []int{3}, []int{5}, flow(table(1, row(cell(2))))}, {item(two(inserted(3), inserted(3)), inserted(3)), []int{3}, nil, flow(two(none, none))},
		{inner(deleted(5)), []int{5}, nil, flow(table(1, row(cell(2))))}, {inner(deleted(5)), nil, []int{5}, flow(inner(none))}, {inner(inserted(5)), nil, []int{5}, flow(table(1, row(cell(2))))}, {table(1, row(aCell(cell(2, item(text("a"), deleted(5))), inserted(3)))), []int{5}, nil, flow(table(1, row(aCell(cell(2), inserted(3)))))},
	} {
		l := flow(text("a"), c.item, text("b"))
		got, e := resolve.Resolve(doc(l...), decision(c.accept, c.reject))
		want := document.Normal(doc(append(append(flow(text("a")), c.want...), text("b"))...))
		if show(got) != show(want) || e != api.OK {
			t.Errorf("%d: Resolve = %+v, %d; want %+v", i, got, e, want)
		}
	}
	heads := table(1, aRow(revised(3, api.KeyHeader, 1), aCell(cell(2), revised(5, api.KeyShade, 7))))
	heads.Head.Marks = revised(7, api.KeyTableWidth, 9)
	want := table(1, api.Row{Head: api.Head{Props: []api.Prop{prop(api.KeyHeader, 1)}}, Cells: []api.Cell{{Id: 2, Head: api.Head{Props: []api.Prop{prop(api.KeyShade, 7)}}}}})
	want.Head.Props = []api.Prop{prop(api.KeyTableWidth, 9)}
	if got, e := resolve.Resolve(doc(heads), decision(nil, []int{3, 5, 7})); show(got) != show(document.Normal(doc(want))) || e != api.OK {
		t.Errorf("Resolve = %+v, %d", got, e)
	}
}

// TestP24_1Revs checks the head of the last section, the table of revisions and the settings.
func TestP24_1Revs(t *testing.T) {
	d := example()
	d.End = api.Head{Props: []api.Prop{prop(api.KeyTop, 9)}, Marks: revised(3, api.KeyTop, 7)}
	d.Settings.Vars = []api.Var{{Name: "v"}}
	d.Flow = append(d.Flow, item(note(1, item(text("n"), inserted(5))), inserted(7)))
	for i, c := range []struct {
		accept, reject []int
		top            int
		revs           []int
	}{{nil, nil, 9, []int{3, 5, 7}}, {[]int{3}, nil, 9, []int{5, 7}}, {nil, []int{3}, 7, []int{5, 7}}, {[]int{5}, nil, 9, []int{3, 7}}, {nil, []int{7}, 9, []int{3, 5}}, {[]int{5}, []int{7}, 9, []int{3}}, {[]int{3, 7}, nil, 9, []int{5}}, {[]int{7}, []int{3, 5}, 7, nil}} {
		got, e := resolve.Resolve(d, decision(c.accept, c.reject))
		if e != api.OK || len(got.End.Props) != 1 || got.End.Props[0].Value != c.top || len(got.End.Marks.Layers) > 0 == slices.Contains(append(c.accept, c.reject...), 3) || !slices.Equal(revsOf(got), c.revs) || len(got.Settings.Vars) != 1 {
			t.Errorf("%d: Resolve = %+v, %d", i, got, e)
		}
	}
	hidden := doc(item(note(1, item(text("n"), inserted(5))), inserted(7)))
	if got, e := resolve.Resolve(hidden, decision(nil, []int{7})); e != api.OK || !isEmpty(got) {
		t.Errorf("an undecided revision remains: %+v, %d", got, e)
	}
}

func TestP24_1Errors(t *testing.T) {
	for i, c := range []struct {
		c    api.Decision
		want api.Errno
	}{
		{decision([]int{0}, nil), api.ErrRevision}, {decision(nil, []int{-1}), api.ErrRevision}, {decision([]int{api.MaxId + 1}, nil), api.ErrRevision}, {decision([]int{api.MaxId}, nil), api.OK}, {decision([]int{3, 3}, nil), api.ErrDuplicate}, {decision(nil, []int{5, 3}), api.ErrOrder}, {decision([]int{3}, []int{3}), api.ErrConflict}, {decision([]int{99}, []int{99}), api.ErrConflict}, {decision([]int{99}, []int{98}), api.OK},
		{decision([]int{5, 3}, []int{0}), api.ErrOrder}, {decision([]int{3}, []int{3, 3}), api.ErrDuplicate},
	} {
		got, e := resolve.Resolve(example(), c.c)
		if e != c.want || e != api.OK && !isEmpty(got) || e == api.OK && show(got) != show(document.Normal(example())) {
			t.Errorf("%d: Resolve = %+v, %d; want %d", i, got, e, c.want)
		}
	}
}

func TestP24_1Many(t *testing.T) {
	changed, fewer := 0, 0
	many(6000, 2, func(r *rand.Rand, d api.Document) {
		c := samples.Decision(r.IntN, someRevs(r))
		want := naiveResolve(d, c)
		got, e := resolve.Resolve(d, c)
		if show(got) != show(want) || e != api.OK {
			t.Fatalf("Resolve(%+v, %v) = %+v, %d; want %+v", d, c, got, e, want)
		}
		if show(got) != show(document.Normal(d)) {
			changed++
		}
		if len(document.Tables(got)) < len(document.Tables(d)) {
			fewer++
		}
	})
	if changed < 2000 || fewer < 500 {
		t.Errorf("%d were changed, %d have fewer tables", changed, fewer)
	}
}

func TestP24_2AcceptAndReject(t *testing.T) {
	d := example()
	accepted := document.Normal(doc(text("abcd"), d.Flow[2], para()))
	if got, e := resolve.Accept(d, []int{3}); show(got) != show(accepted) || e != api.OK {
		t.Errorf("Accept = %+v, %d", got, e)
	}
	if got, e := resolve.Reject(d, []int{3, 5}); show(got) != show(api.Document{Flow: flow(text("abe"), para())}) || e != api.OK {
		t.Errorf("Reject = %+v, %d", got, e)
	}
	many(2000, 3, func(r *rand.Rand, d api.Document) {
		l := someRevs(r)
		switch r.IntN(6) {
		case 0:
			slices.Reverse(l)
		case 1:
			l = append(l, 9, 9)
		case 2:
			l = append(l, samples.Numbers()[r.IntN(len(samples.Numbers()))])
		}
		want, failure := resolve.Resolve(d, decision(l, nil))
		if got, e := resolve.Accept(d, l); show(got) != show(want) || e != failure || e != mark.CheckDecision(decision(l, nil)) {
			t.Fatalf("Accept(%+v, %v) = %+v, %d; want %+v, %d", d, l, got, e, want, failure)
		}
		want, failure = resolve.Resolve(d, decision(nil, l))
		if got, e := resolve.Reject(d, l); show(got) != show(want) || e != failure || e != mark.CheckDecision(decision(l, nil)) {
			t.Fatalf("Reject(%+v, %v) = %+v, %d; want %+v, %d", d, l, got, e, want, failure)
		}
	})
}

func TestP24_3OriginalAndFinal(t *testing.T) {
	if got := resolve.Original(example()); show(got) != show(api.Document{Flow: flow(text("abe"), para())}) {
		t.Errorf("Original = %+v", got)
	}
	if got := resolve.Final(example()); show(got) != show(api.Document{Flow: flow(text("abcd"), para())}) {
		t.Errorf("Final = %+v", got)
	}
	if !isEmpty(resolve.Original(api.Document{})) || !isEmpty(resolve.Final(api.Document{})) {
		t.Error("the views of the empty document are not empty")
	}
	differ := 0
	many(5000, 4, func(_ *rand.Rand, d api.Document) {
		original, final := resolve.Original(d), resolve.Final(d)
		if want := naiveOriginal(d); show(original) != show(want) {
			t.Fatalf("Original(%+v) = %+v; want %+v", d, original, want)
		}
		if want := naiveFinal(d); show(final) != show(want) {
			t.Fatalf("Final(%+v) = %+v; want %+v", d, final, want)
		}
		if show(original) != show(final) {
			differ++
		}
	})
	if differ < 2000 {
		t.Errorf("the views of %d documents differ", differ)
	}
}

// hidden is a document whose elements are hidden in many ways: the tables 1, 5 and 9, and a note 20 with the table 21.
func hidden() api.Document {
	return doc(
		text("ab"), item(table(1, row(cell(2)), aRow(deleted(5), cell(3)), row(aCell(cell(4), deleted(3)))), inserted(3)), item(text("\u00e9\U0001F600"), deleted(3)),
		table(5, row(aCell(cell(6), deleted(3)), cell(7)), row(aCell(cell(8), deleted(5)))), table(9, row(aCell(cell(10, text("a")), deleted(3))), aRow(deleted(5), cell(11))),
		item(note(20, table(21, aRow(deleted(5), cell(22))), item(para(), deleted(5)), item(text("xy"), inserted(5))), deleted(7)), para(),
	)
}

func TestP24_4Visible(t *testing.T) {
	for i, c := range []struct {
		flow int
		want string
		e    api.Errno
	}{
		{0, "[true true true false false true false false true]", api.OK}, {20, "[false false true true]", api.OK}, {10, "[true]", api.OK}, {2, "[]", api.OK}, {1, "[]", api.ErrNotFound}, {99, "[]", api.ErrNotFound}, {-1, "[]", api.ErrNotFound}, {math.MinInt, "[]", api.ErrNotFound},
	} {
		if got, e := resolve.Visible(hidden(), c.flow); show(got) != c.want || e != c.e {
			t.Errorf("%d: Visible(%d) = %v, %d; want %s, %d", i, c.flow, got, e, c.want, c.e)
		}
	}
	if got, e := resolve.Visible(example(), 0); show(got) != "[true true true true false true]" || e != api.OK {
		t.Errorf("the chapter's example is %v, %d", got, e)
	}
	if got, e := resolve.Visible(api.Document{}, 0); len(got) > 0 || e != api.OK {
		t.Errorf("the empty document is %v, %d", got, e)
	}
}

func TestP24_4RowsAndCells(t *testing.T) {
	for i, c := range []struct {
		table, row  int
		rows, cells string
		e, f        api.Errno
	}{
		{1, 0, "[true false false]", "[true]", api.OK, api.OK}, {1, 1, "[true false false]", "[true]", api.OK, api.OK}, {1, 2, "[true false false]", "[false]", api.OK, api.OK}, {5, 0, "[true false]", "[false true]", api.OK, api.OK}, {5, 1, "[true false]", "[false]", api.OK, api.OK}, {9, 1, "[false false]", "[true]", api.OK, api.OK}, {21, 0, "[false]", "[true]", api.OK, api.OK},
		{1, 3, "[true false false]", "[]", api.OK, api.ErrRange}, {1, -1, "[true false false]", "[]", api.OK, api.ErrRange}, {1, math.MaxInt, "[true false false]", "[]", api.OK, api.ErrRange}, {2, 0, "[]", "[]", api.ErrNotFound, api.ErrNotFound}, {20, 0, "[]", "[]", api.ErrNotFound, api.ErrNotFound}, {0, -1, "[]", "[]", api.ErrNotFound, api.ErrNotFound}, {-1, 5, "[]", "[]", api.ErrNotFound, api.ErrNotFound},
	} {
		if got, e := resolve.Rows(hidden(), c.table); show(got) != c.rows || e != c.e {
			t.Errorf("%d: Rows(%d) = %v, %d; want %s, %d", i, c.table, got, e, c.rows, c.e)
		}
		if got, e := resolve.Cells(hidden(), c.table, c.row); show(got) != c.cells || e != c.f {
			t.Errorf("%d: Cells(%d, %d) = %v, %d; want %s, %d", i, c.table, c.row, got, e, c.cells, c.f)
		}
	}
	marked := doc(table(1, aRow(deleted(5), cell(2))))
	if got, e := resolve.Rows(marked, 1); show(got) != "[false]" || e != api.OK {
		t.Errorf("the chapter's example is %v, %d", got, e)
	}
	if got, e := resolve.Reject(marked, []int{5}); show(got) != show(api.Document{Flow: flow(table(1, row(cell(2))))}) || e != api.OK {
		t.Errorf("the chapter's example becomes %+v, %d", got, e)
	}
	if got, e := resolve.Accept(marked, []int{5}); !isEmpty(got) || e != api.OK {
		t.Errorf("the chapter's example becomes %+v, %d", got, e)
	}
}

func TestP24_4Many(t *testing.T) {
	counts := make(map[bool]int)
	many(1500, 5, func(_ *rand.Rand, d api.Document) {
		for _, id := range append(document.Flows(d), 9999) {
			l, found := document.Flow(d, id)
			got, e := resolve.Visible(d, id)
			if show(got) != show(naiveVisible(d, l)) || (e == api.OK) != found {
				t.Fatalf("Visible(%+v, %d) = %v, %d", d, id, got, e)
			}
		}
		for _, id := range document.Tables(d) {
			item, _ := document.Table(d, id)
			rows, e := resolve.Rows(d, id)
			if show(rows) != show(naiveRows(d, item.Rows)) || e != api.OK {
				t.Fatalf("Rows(%+v, %d) = %v, %d", d, id, rows, e)
			}
			for i, r := range item.Rows {
				if got, e := resolve.Cells(d, id, i); show(got) != show(naiveCells(d, r)) || e != api.OK {
					t.Fatalf("Cells(%+v, %d, %d) = %v, %d", d, id, i, got, e)
				}
				counts[rows[i]]++
			}
		}
	})
	if counts[true] < 300 || counts[false] < 300 {
		t.Errorf("the rows are visible: %v", counts)
	}
}

func TestP24_5Shown(t *testing.T) {
	d := hidden()
	for i, c := range []struct {
		l    []api.Item
		want []int
	}{
		{d.Flow, []int{0, 2, 7}}, {nil, []int{0}}, {flow(note(4, table(3, row(cell(2), cell(1)))), note(5)), []int{0, 4, 2, 1, 5}}, {flow(item(note(4, table(3, row(cell(2)))), deleted(3)), item(note(5), inserted(3))), []int{0, 5}}, {flow(table(1, row(cell(9), aCell(cell(2, note(4)), deleted(5)), cell(3)))), []int{0, 9, 3}}, {flow(table(1, aRow(deleted(5), cell(9)), row(cell(3, item(text("a"), deleted(3)))))), []int{0, 3}},
	} {
		if got := resolve.Shown(doc(c.l...)); !slices.Equal(got, c.want) {
			t.Errorf("%d: Shown = %v; want %v", i, got, c.want)
		}
	}
	fewer := 0
	many(2000, 6, func(_ *rand.Rand, d api.Document) {
		got := resolve.Shown(d)
		if want := document.Flows(naiveFinal(d)); !slices.Equal(got, want) {
			t.Fatalf("Shown(%+v) = %v; want %v", d, got, want)
		}
		if len(got) < len(document.Flows(d)) {
			fewer++
		}
	})
	if fewer < 300 {
		t.Errorf("%d documents show fewer flows", fewer)
	}
}
