package dependency_test

import (
	"math/rand/v2"
	"slices"
	"testing"

	"obelus/api"
	"obelus/dependency"
	"obelus/document"
	"obelus/samples"
)

// typed is the document of the chapter's first example: 1 inserts a table, and 2 types into a cell of it.
func typed() api.Document {
	return doc(text("ab"), ins(table(7, row(cell(8, ins(text("word"), 2)))), 1), para())
}

// several has marks of five revisions in a table, in a note, in the body and in End.
func several() api.Document {
	r := insRow(row(insCell(cell(3, bold(text("\u00e9\U0001F600"), 1, 2, 1), para()), 5), cell(4, del(ins(text("x"), 1), 2, 5))), 3)
	return withEnd(doc(bold(del(ins(text("abc"), 2), 1, 3), 1, 2, 5), table(2, r), ins(note(9, del(para(), 8)), 8)), 2, 3, 2)
}

func TestP1AllArguments(t *testing.T) {
	r := rand.New(rand.NewPCG(27, 1))
	zero := bold(del(ins(text("a"), 0), 0, -1), 0, 0)
	both := doc(zero, ins(note(0, zero, ins(text("\xFF"), -1)), 7), ins(table(1), 1), bold(table(1, row(), tallRow(row(), 2)), 1), ins(text(""), 2), api.Item{Kind: 99, Id: 1, Flow: flow(zero), Rows: []api.Row{row(cell(0, zero))}})
	both.Revs = append(both.Revs, api.Rev{Id: -1}, api.Rev{}, api.Rev{Id: 1})
	wild := []api.Document{{}, {Flow: both.Flow}, both, {Flow: flow(zero), End: zero.Head, Revs: []api.Rev{{}, {Id: -3}}}, {End: ins(del(text(""), 1), 1).Head, Revs: []api.Rev{{Id: 1}}}}
	for range 500 {
		wild = append(wild, samples.Wrong(r.IntN), samples.Document(r.IntN))
	}
	numbers := samples.Numbers()
	number := func() int { return numbers[r.IntN(len(numbers))] }
	for i, d := range wild {
		dependency.Clusters(d)
		for range 12 {
			a, b := number(), number()
			dependency.Marks(d, a)
			dependency.Touch(d, a, b)
			c := decision([]int{a}, []int{b, number()}[:r.IntN(3)])
			effect, e := dependency.Of(d, c)
			if e != api.OK && effect != (dependency.Effect{}) {
				t.Fatalf("%d: Of(%v) = %v, %d", i, c, effect, e)
			}
			lists := make([][]int, 5)
			errors := make([]api.Errno, 5)
			lists[0], errors[0] = dependency.Loses(d, c)
			lists[1], errors[1] = dependency.Needs(d, a)
			lists[2], errors[2] = dependency.Covers(d, a)
			lists[3], errors[3] = dependency.Accepting(d, []int{a, b})
			lists[4], errors[4] = dependency.Rejecting(d, []int{a, b})
			for k := range lists {
				if errors[k] != api.OK && lists[k] != nil {
					t.Fatalf("%d, %d: %v, %d", i, k, lists[k], errors[k])
				}
			}
		}
	}
}

// TestP1Deep nests flows as deeply as the document permits.
func TestP1Deep(t *testing.T) {
	tables, notes := samples.Deep(1 << 16)
	for i, l := range [][]api.Item{tables, notes} {
		l[0] = ins(l[0], 3)
		l[1] = ins(l[1], 1)
		d, found := document.SetFlow(doc(l...), 4, flow(ins(text("xy"), 2)))
		if !found || dependency.Marks(d, 1) != 1 || dependency.Marks(d, 2) != 2 || !dependency.Touch(d, 1, 2) || dependency.Touch(d, 2, 3) {
			t.Errorf("%d: %v, %d, %d", i, found, dependency.Marks(d, 1), dependency.Marks(d, 2))
		}
		if got := dependency.Clusters(d); show(got) != show([][]int{{1, 2}, {3}}) {
			t.Errorf("%d: Clusters = %v", i, got)
		}
		for k, f := range []func() ([]int, api.Errno){
			func() ([]int, api.Errno) { return dependency.Needs(d, 2) }, func() ([]int, api.Errno) { return dependency.Covers(withEnd(d, 1, 2), 2) }, func() ([]int, api.Errno) { return dependency.Loses(withEnd(d, 1, 3), decision([]int{3}, nil)) },
		} {
			if got, e := f(); show(got) != "[1]" || e != api.OK {
				t.Errorf("%d, %d: %v, %d", i, k, got, e)
			}
		}
		accepting, e := dependency.Accepting(d, []int{2})
		rejecting, err := dependency.Rejecting(d, []int{1})
		if show(accepting)+show(rejecting) != "[1 2][1 2]" || e != api.OK || err != api.OK {
			t.Errorf("%d: %v, %d, %v, %d", i, accepting, e, rejecting, err)
		}
		if got, e := dependency.Of(d, decision(nil, []int{1})); got != (dependency.Effect{Gone: document.Units(d) - 2, Units: 2, Marks: 1}) || e != api.OK {
			t.Errorf("%d: Of = %v, %d", i, got, e)
		}
	}
}

func TestP27_1Marks(t *testing.T) {
	for i, c := range []struct {
		d    api.Document
		want map[int]int
	}{
		{doc(), nil}, {doc(text("ab"), para()), nil}, {typed(), map[int]int{1: 1, 2: 4}}, {withEnd(doc(), 3, 5, 3), map[int]int{3: 2, 5: 1}},
		{several(), map[int]int{1: 3 + 3 + 2*2 + 1, 2: 3 + 3 + 2 + 1 + 2, 3: 3 + 1 + 1, 5: 3 + 1 + 1, 8: 2}},
		{doc(del(ins(text("\u00e9\u0301\U0001F600"), 5), 5)), map[int]int{5: 6}}, {doc(ins(api.Item{Kind: api.Field, Text: "page"}, 2), bold(samples.Break(api.Tab), 2, 2, 2), del(samples.Start(1, "name"), 2)), map[int]int{2: 5}},
		{doc(table(2, tallRow(row(shadedCell(cell(3), 8)), 8), row(shadedCell(insCell(cell(4, para()), 8), 8)))), map[int]int{8: 4}},
	} {
		if e := document.Check(c.d); e != api.OK {
			t.Fatalf("%d: the document has the error %d", i, e)
		}
		for _, rev := range samples.Numbers() {
			if got := dependency.Marks(c.d, rev); got != c.want[rev] {
				t.Errorf("%d: Marks(%d) = %d; want %d", i, rev, got, c.want[rev])
			}
		}
		if got := dependency.Marks(c.d, 8); got != c.want[8] {
			t.Errorf("%d: Marks(8) = %d; want %d", i, got, c.want[8])
		}
	}
	many(2000, 2, func(_ *rand.Rand, d api.Document) {
		for rev := range 11 {
			if got, want := dependency.Marks(d, rev), naiveMarks(d, rev); got != want {
				t.Fatalf("Marks(%+v, %d) = %d; want %d", d, rev, got, want)
			}
		}
	})
}

// TestP27_2Rows has rows and tables that disappear with the last cell or row that they contain.
func TestP27_2Rows(t *testing.T) {
	both := func(second int) api.Document { // 8 has marks on the table and on the row, 1 and another one insert its cells
		return doc(bold(table(2, tallRow(row(insCell(cell(3), 1), insCell(cell(4), second)), 8)), 8))
	}
	two := func(first, second int) api.Document {
		return doc(del(table(2, insRow(row(cell(3)), first), row(insCell(cell(4), second))), 8))
	}
	for i, c := range []struct {
		d    api.Document
		want []int
	}{
		{both(1), []int{1}}, {both(2), nil}, {both(0), nil}, {two(1, 1), []int{1}}, {two(1, 2), nil}, {two(0, 2), nil},
		{doc(ins(table(2, row(insCell(cell(3, ins(text("a"), 5), ins(note(6, del(para(), 8)), 1)), 2))), 3)), []int{1, 2, 3}},
		{doc(table(2, row(insCell(cell(3), 1), cell(4, bold(text("a"), 8))))), nil}, {doc(table(2, insRow(row(cell(3)), 1), row(cell(4, bold(text("a"), 8))))), nil},
	} {
		if got, e := dependency.Needs(c.d, 8); show(got) != show(c.want) || e != api.OK || show(naiveNeeds(c.d, 8)) != show(c.want) {
			t.Errorf("%d: Needs = %v, %d; want %v", i, got, e, c.want)
		}
	}
}

func TestP27_2NeedsAndCovers(t *testing.T) {
	bolder := bold(text("word"), 1, 2)
	for i, c := range []struct {
		d             api.Document
		rev           int
		needs, covers []int
	}{
		{typed(), 1, nil, nil}, {typed(), 2, []int{1}, nil}, {typed(), 5, nil, nil},
		{doc(bolder), 1, nil, nil}, {doc(bolder), 2, nil, []int{1}}, {withEnd(doc(), 5, 3), 3, nil, []int{5}}, {withEnd(doc(), 5, 3, 5), 5, nil, []int{3}},
		{doc(del(bold(ins(text("a"), 1), 3), 2)), 2, []int{1}, []int{1, 3}}, {doc(del(bold(ins(text("a"), 1), 3), 2)), 1, nil, nil}, {doc(del(bold(ins(text("a"), 1), 3), 2)), 3, []int{1}, nil},
		{doc(bold(ins(text("a"), 1), 1, 1, 1)), 1, nil, nil}, {doc(del(note(1, ins(text("a"), 1), del(text("b"), 2), table(2, row(insCell(cell(3), 5)))), 8)), 8, nil, []int{1, 2, 5}},
		{several(), 1, []int{2, 3, 5}, []int{2, 3, 5}}, {several(), 2, []int{1, 3, 5}, []int{1, 3, 5}}, {several(), 3, []int{2}, []int{1, 2, 5}}, {several(), 5, []int{1, 2, 3}, []int{1, 2}}, {several(), 8, nil, nil},
	} {
		if got, e := dependency.Needs(c.d, c.rev); show(got) != show(c.needs) || e != api.OK {
			t.Errorf("%d: Needs(%d) = %v, %d; want %v", i, c.rev, got, e, c.needs)
		}
		if got, e := dependency.Covers(c.d, c.rev); show(got) != show(c.covers) || e != api.OK {
			t.Errorf("%d: Covers(%d) = %v, %d; want %v", i, c.rev, got, e, c.covers)
		}
	}
	for _, rev := range []int{-1, 0, 4, 9, api.MaxId, 1 << 40} {
		if got, e := dependency.Needs(several(), rev); got != nil || e != api.ErrNotFound {
			t.Errorf("Needs(%d) = %v, %d", rev, got, e)
		}
		if got, e := dependency.Covers(several(), rev); got != nil || e != api.ErrNotFound {
			t.Errorf("Covers(%d) = %v, %d", rev, got, e)
		}
	}
}

func TestP27_2Many(t *testing.T) {
	needed, covered := 0, 0
	many(2000, 3, func(_ *rand.Rand, d api.Document) {
		for _, rev := range revsOf(d) {
			needs, e := dependency.Needs(d, rev)
			if want := naiveNeeds(d, rev); show(needs) != show(want) || e != api.OK {
				t.Fatalf("Needs(%+v, %d) = %v, %d; want %v", d, rev, needs, e, want)
			}
			covers, e := dependency.Covers(d, rev)
			if want := naiveCovers(d, rev); show(covers) != show(want) || e != api.OK {
				t.Fatalf("Covers(%+v, %d) = %v, %d; want %v", d, rev, covers, e, want)
			}
			needed, covered = needed+len(needs), covered+len(covers)
		}
	})
	if needed < 700 || covered < 900 {
		t.Errorf("%d are needed, %d covered", needed, covered)
	}
}

func TestP27_3Touch(t *testing.T) {
	apart := doc(table(2, row(insCell(cell(3, ins(text("a"), 1)), 2), insCell(cell(4, bold(text("b"), 3)), 5)), insRow(row(cell(6)), 8)), ins(note(7, ins(para(), 2)), 5))
	for i, c := range []struct {
		d    api.Document
		want [][2]int // the pairs of different revisions that touch
	}{
		{doc(ins(text("a"), 1), para(), ins(text("b"), 2)), nil}, {typed(), [][2]int{{1, 2}}}, {doc(bold(text("a"), 1, 2)), [][2]int{{1, 2}}}, {doc(del(ins(text("a"), 1), 2, 3)), [][2]int{{1, 2}, {1, 3}, {2, 3}}}, {withEnd(doc(ins(text("a"), 1)), 2, 3), [][2]int{{2, 3}}},
		{apart, [][2]int{{1, 2}, {3, 5}, {2, 5}}}, {several(), [][2]int{{1, 2}, {1, 3}, {1, 5}, {2, 3}, {2, 5}, {3, 5}}},
		{doc(ins(table(2, row(cell(3, table(4, row(cell(5, del(text("a"), 8))))))), 1)), [][2]int{{1, 8}}}, {doc(note(1, ins(text("a"), 1), ins(text("b"), 2))), nil}, {doc(note(1, ins(text("a"), 1)), ins(para(), 2)), nil},
	} {
		for _, a := range append(revsOf(c.d), 0, -1, 4) {
			for _, b := range append(revsOf(c.d), 0, -1, 4) {
				want := slices.Contains(c.want, [2]int{a, b}) || slices.Contains(c.want, [2]int{b, a}) || a == b && naiveMarks(c.d, a) > 0
				if got := dependency.Touch(c.d, a, b); got != want {
					t.Errorf("%d: Touch(%d, %d) = %v", i, a, b, got)
				}
			}
		}
	}
	touching := 0
	many(2000, 4, func(_ *rand.Rand, d api.Document) {
		for _, a := range append(revsOf(d), 0, 7) {
			for _, b := range append(revsOf(d), 0, 7) {
				got := dependency.Touch(d, a, b)
				if got != naiveTouch(d, a, b) {
					t.Fatalf("Touch(%+v, %d, %d) = %v", d, a, b, got)
				}
				if got && a < b {
					touching++
				}
			}
		}
	})
	if touching < 1000 {
		t.Errorf("%d pairs touch", touching)
	}
}

func TestP27_3Clusters(t *testing.T) {
	for i, c := range []struct {
		d    api.Document
		want [][]int
	}{
		{api.Document{}, nil}, {doc(text("a")), nil}, {typed(), [][]int{{1, 2}}}, {doc(ins(text("a"), 1), para(), ins(text("b"), 2)), [][]int{{1}, {2}}}, {several(), [][]int{{1, 2, 3, 5}, {8}}},
		{doc(ins(text("a"), 8), ins(text("b"), 5), ins(text("c"), 1), para()), [][]int{{1}, {5}, {8}}}, {withEnd(doc(del(ins(text("a"), 8), 1), bold(text("b"), 3)), 2, 5), [][]int{{1, 8}, {2, 5}, {3}}},
		{doc(del(ins(text("a"), 8), 1), del(ins(text("b"), 5), 2), del(ins(text("c"), 2), 8), bold(text("d"), 3)), [][]int{{1, 2, 5, 8}, {3}}},
		{doc(ins(table(2, row(cell(3, note(4, ins(text("a"), 5)), ins(text("b"), 1))), row(cell(6, ins(text("c"), 3)))), 8), ins(text("a"), 2)), [][]int{{1, 3, 5, 8}, {2}}}, {doc(table(2, row(cell(3, ins(text("a"), 1)), cell(4, ins(text("a"), 2))))), [][]int{{1}, {2}}},
	} {
		if got := dependency.Clusters(c.d); show(got) != show(c.want) {
			t.Errorf("%d: Clusters = %v; want %v", i, got, c.want)
		}
	}
	sizes := make(map[int]int)
	many(2000, 5, func(_ *rand.Rand, d api.Document) {
		got := dependency.Clusters(d)
		if want := naiveClusters(d); show(got) != show(want) {
			t.Fatalf("Clusters(%+v) = %v; want %v", d, got, want)
		}
		sizes[len(got)]++
	})
	if sizes[1] < 200 || sizes[2] < 100 || sizes[3] < 10 {
		t.Errorf("the numbers of clusters are %v", sizes)
	}
}

func TestP27_4Closures(t *testing.T) {
	chain := doc(ins(table(2, row(insCell(cell(3, ins(note(4, ins(text("a"), 5)), 3)), 2))), 1), ins(text("b"), 8))
	for i, c := range []struct {
		d                          api.Document
		revs, accepting, rejecting []int
	}{
		{doc(), nil, nil, nil}, {doc(), []int{8, 1, 8}, []int{1, 8}, []int{1, 8}}, {typed(), []int{2}, []int{1, 2}, []int{2}}, {typed(), []int{1}, []int{1}, []int{1, 2}}, {typed(), []int{2, 1}, []int{1, 2}, []int{1, 2}},
		{chain, []int{5}, []int{1, 2, 3, 5}, []int{5}}, {chain, []int{1}, []int{1, 2}, []int{1, 2, 3, 5}}, {chain, []int{8, 3}, []int{1, 2, 3, 8}, []int{3, 5, 8}}, {chain, nil, nil, nil},
		// not all of these are in one element: 5 needs 3, 3 needs 2, 2 needs 1
		{doc(del(ins(text("a"), 3), 5), del(ins(text("b"), 2), 3), del(ins(text("c"), 1), 2)), []int{5}, []int{1, 2, 3, 5}, []int{5}}, {doc(del(ins(text("a"), 3), 5), del(ins(text("b"), 2), 3), del(ins(text("c"), 1), 2)), []int{1}, []int{1}, []int{1, 2, 3, 5}}, {doc(del(ins(text("a"), 1), 2), del(ins(text("b"), 2), 1)), []int{2}, []int{1, 2}, []int{1, 2}},
		{doc(bold(text("a"), 1, 2, 3)), []int{2}, []int{2}, []int{2}},
	} {
		if got, e := dependency.Accepting(c.d, c.revs); show(got) != show(c.accepting) || e != api.OK {
			t.Errorf("%d: Accepting(%v) = %v, %d; want %v", i, c.revs, got, e, c.accepting)
		}
		if got, e := dependency.Rejecting(c.d, c.revs); show(got) != show(c.rejecting) || e != api.OK {
			t.Errorf("%d: Rejecting(%v) = %v, %d; want %v", i, c.revs, got, e, c.rejecting)
		}
	}
	for _, revs := range [][]int{{0}, {1, 4}, {9, 1}, {-1, 2}, {1, 2, 3, 5, 8, api.MaxId}} {
		if got, e := dependency.Accepting(chain, revs); got != nil || e != api.ErrNotFound {
			t.Errorf("Accepting(%v) = %v, %d", revs, got, e)
		}
		if got, e := dependency.Rejecting(chain, revs); got != nil || e != api.ErrNotFound {
			t.Errorf("Rejecting(%v) = %v, %d", revs, got, e)
		}
	}
	more := 0
	many(1000, 6, func(r *rand.Rand, d api.Document) {
		var revs []int
		for range r.IntN(3) {
			if len(d.Revs) > 0 {
				revs = append(revs, d.Revs[r.IntN(len(d.Revs))].Id)
			}
		}
		accepting, e := dependency.Accepting(d, revs)
		if want := naiveAccepting(d, revs); show(accepting) != show(want) || e != api.OK {
			t.Fatalf("Accepting(%+v, %v) = %v, %d; want %v", d, revs, accepting, e, want)
		}
		rejecting, e := dependency.Rejecting(d, revs)
		if want := naiveRejecting(d, revs); show(rejecting) != show(want) || e != api.OK {
			t.Fatalf("Rejecting(%+v, %v) = %v, %d; want %v", d, revs, rejecting, e, want)
		}
		if given := len(grow(d, revs, func(int) []int { return nil })); len(accepting) > given && len(rejecting) > given {
			more++
		}
	})
	if more < 20 {
		t.Errorf("%d sets grew", more)
	}
}

func TestP27_5Effect(t *testing.T) {
	bolder := doc(bold(text("word"), 1, 2))
	for i, c := range []struct {
		d    api.Document
		c    api.Decision
		want dependency.Effect
		lost []int
	}{
		{doc(), decision(nil, nil), dependency.Effect{}, nil}, {typed(), decision(nil, nil), dependency.Effect{Units: 8, Marks: 5}, nil}, {typed(), decision(nil, []int{1}), dependency.Effect{Gone: 5, Units: 3}, []int{2}}, {typed(), decision([]int{1}, nil), dependency.Effect{Units: 8, Marks: 4}, nil}, {typed(), decision([]int{1}, []int{2}), dependency.Effect{Gone: 4, Units: 4}, nil}, {typed(), decision(nil, []int{1, 2}), dependency.Effect{Gone: 5, Units: 3}, nil}, {typed(), decision([]int{3, 4}, []int{9}), dependency.Effect{Units: 8, Marks: 5}, nil},
		{bolder, decision([]int{2}, nil), dependency.Effect{Units: 4}, []int{1}}, {bolder, decision(nil, []int{1}), dependency.Effect{Units: 4, Marks: 4}, nil}, {bolder, decision([]int{1}, nil), dependency.Effect{Units: 4, Marks: 4}, nil},
		{withEnd(typed(), 3, 2, 1), decision([]int{2}, []int{1}), dependency.Effect{Gone: 5, Units: 3}, []int{3}}, {withEnd(doc(), 3, 2, 3), decision(nil, []int{3}), dependency.Effect{Marks: 1}, nil},
	} {
		if got, e := dependency.Of(c.d, c.c); got != c.want || e != api.OK {
			t.Errorf("%d: Of = %v, %d; want %v", i, got, e, c.want)
		}
		if got, e := dependency.Loses(c.d, c.c); show(got) != show(c.lost) || e != api.OK {
			t.Errorf("%d: Loses = %v, %d; want %v", i, got, e, c.lost)
		}
	}
	for i, c := range []struct {
		c api.Decision
		e api.Errno
	}{
		{decision([]int{0}, nil), api.ErrRevision}, {decision([]int{1, 1, 0}, nil), api.ErrDuplicate}, {decision([]int{2, 1}, []int{0}), api.ErrOrder}, {decision([]int{1}, []int{1, api.MaxId + 1}), api.ErrRevision}, {decision(nil, []int{5, 3}), api.ErrOrder}, {decision([]int{1, 2}, []int{2}), api.ErrConflict},
	} {
		if got, e := dependency.Of(typed(), c.c); got != (dependency.Effect{}) || e != c.e {
			t.Errorf("%d: Of = %v, %d; want %d", i, got, e, c.e)
		}
		if got, e := dependency.Loses(typed(), c.c); got != nil || e != c.e {
			t.Errorf("%d: Loses = %v, %d; want %d", i, got, e, c.e)
		}
	}
	losing := 0
	many(3000, 7, func(r *rand.Rand, d api.Document) {
		c := samples.Decision(r.IntN, []int{1, 2, 3, 4, 9})
		if got, e := dependency.Of(d, c); got != naiveOf(d, c) || e != api.OK {
			t.Fatalf("Of(%+v, %v) = %v, %d; want %v", d, c, got, e, naiveOf(d, c))
		}
		want := selected(d, func(rev int) bool {
			return !slices.Contains(c.Accept, rev) && !slices.Contains(c.Reject, rev) && loses(d, rev, c)
		})
		if got, e := dependency.Loses(d, c); show(got) != show(want) || e != api.OK {
			t.Fatalf("Loses(%+v, %v) = %v, %d; want %v", d, c, got, e, want)
		}
		losing += len(want)
	})
	if losing < 200 {
		t.Errorf("%d revisions lose marks", losing)
	}
}
