package changelist_test

import (
	"math"
	"math/rand/v2"
	"slices"
	"testing"

	"obelus/api"
	"obelus/changelist"
	"obelus/document"
	"obelus/samples"
)

const (
	insertion, deletion, format = changelist.Insertion, changelist.Deletion, changelist.Format
	items, inRow, inCell, inEnd = changelist.Items, changelist.Row, changelist.Cell, changelist.End
)

// entry returns an entry for units of a flow.
func entry(kind, rev, move, key, flow, from, to int) changelist.Entry {
	return at(changelist.Entry{Kind: kind, Rev: rev, Move: move, Key: key}, items, flow, from, to, -1, -1)
}

// example is the document of the chapter's example.
func example() api.Document {
	return doc(text("a"), ins(text("bc"), 1, 0), del(ins(text("d"), 1, 0), by(2, 0)))
}

// several has marks of all kinds on elements of all kinds.
func several() api.Document {
	bold := []api.Layer{layer(3, api.KeyBold), layer(1, api.KeyBold), layer(3, api.KeyBold), layer(3, api.KeySize)}
	return withEnd(doc(
		layered(ins(text("\u00e9\U0001F600"), 2, 4), bold...),
		ins(note(9, text("x"), del(para(), by(2, 6), by(8, 0))), 2, 4),
		ins(text("z"), 2, 5),
		layered(del(table(4,
			markedRow(api.Marks{Dels: []api.Del{by(1, 2), by(5, 0)}}, cell(7), markedCell(api.Marks{Ins: 5, Move: 1}, 6, ins(text("ab"), 5, 1), ins(text("c"), 5, 0))),
			markedRow(api.Marks{Ins: 2, Layers: []api.Layer{layer(8, api.KeyHeader), layer(8, api.KeyRowHeight), layer(8, api.KeyRowHeight)}},
				markedCell(api.Marks{Layers: []api.Layer{layer(3, api.KeyShade)}}, 5, table(2, row(cell(1, del(text("q"), by(3, 0))))))),
		), by(1, 2)), layer(2, api.KeyTableAlign)),
		layered(text("w"), layer(3, api.KeyBold)),
		para(),
	), layer(5, api.KeyTop), layer(2, api.KeyBottom), layer(5, api.KeyBottom), layer(5, api.KeyBottom))
}

// entriesOfSeveral are the entries of that document.
func entriesOfSeveral() []changelist.Entry {
	in := func(e changelist.Entry, scope, flow, from, row, cell int) changelist.Entry {
		return at(e, scope, flow, from, from+1, row, cell)
	}
	of := func(kind, rev, move, key int) changelist.Entry {
		return changelist.Entry{Kind: kind, Rev: rev, Move: move, Key: key}
	}
	return []changelist.Entry{
		entry(insertion, 2, 4, 0, 0, 0, 3), entry(format, 1, 0, api.KeyBold, 0, 0, 2), entry(format, 3, 0, api.KeyBold, 0, 0, 2), entry(format, 3, 0, api.KeySize, 0, 0, 2),
		entry(insertion, 2, 5, 0, 0, 3, 4),
		entry(deletion, 1, 2, 0, 0, 4, 5), entry(format, 2, 0, api.KeyTableAlign, 0, 4, 5),
		in(of(deletion, 1, 2, 0), inRow, 0, 4, 0, -1), in(of(deletion, 5, 0, 0), inRow, 0, 4, 0, -1), in(of(insertion, 5, 1, 0), inCell, 0, 4, 0, 1),
		in(of(insertion, 2, 0, 0), inRow, 0, 4, 1, -1), in(of(format, 8, 0, api.KeyHeader), inRow, 0, 4, 1, -1), in(of(format, 8, 0, api.KeyRowHeight), inRow, 0, 4, 1, -1),
		in(of(format, 3, 0, api.KeyShade), inCell, 0, 4, 1, 0),
		entry(format, 3, 0, api.KeyBold, 0, 5, 6),
		entry(deletion, 2, 6, 0, 9, 1, 2), entry(deletion, 8, 0, 0, 9, 1, 2),
		entry(insertion, 5, 1, 0, 6, 0, 2), entry(insertion, 5, 0, 0, 6, 2, 3),
		entry(deletion, 3, 0, 0, 1, 0, 1),
		at(of(format, 2, 0, api.KeyBottom), inEnd, 0, 7, 7, -1, -1), at(of(format, 5, 0, api.KeyTop), inEnd, 0, 7, 7, -1, -1), at(of(format, 5, 0, api.KeyBottom), inEnd, 0, 7, 7, -1, -1),
	}
}

func TestP1AllArguments(t *testing.T) {
	r := rand.New(rand.NewPCG(29, 1))
	zero := layered(del(ins(text("a"), 0, 3), by(0, -1), by(0, 2)), layer(0, 0), layer(-1, -1))
	odd := doc(zero, ins(note(0, zero, ins(text("\xFF"), -1, -5)), 7, 0), ins(table(1), 1, 0), table(1, row(), markedRow(zero.Head.Marks)), ins(text(""), 2, 0), api.Item{Kind: 99, Id: 1, Flow: flow(zero), Rows: []api.Row{row(cell(0, zero))}})
	odd.Flow = append(odd.Flow, ins(text("\xFF"), 1, 1), table(3), ins(text(""), 1, 1))
	odd.End = zero.Head
	odd.Revs = append(revs(), api.Rev{Id: -1}, api.Rev{}, api.Rev{Id: 1})
	wild := []api.Document{{}, {Flow: odd.Flow}, odd, {Flow: flow(zero), Revs: []api.Rev{{}, {Id: -3}}}, {End: ins(del(text(""), by(1, 1)), 1, 1).Head, Revs: []api.Rev{{Id: 1}}}}
	for range 400 {
		wild = append(wild, samples.Wrong(r.IntN), samples.Document(r.IntN))
	}
	numbers := append(samples.Numbers(), 0, 1, 4001, 8002)
	number := func() int { return numbers[r.IntN(len(numbers))] }
	for i, d := range wild {
		l := changelist.List(d)
		changelist.Of(l, []int{number(), number()})
		changelist.Stats(d)
		for range 20 {
			p, span := api.Pos{Flow: number(), At: number()}, api.Range{Flow: number(), From: number(), To: number()}
			for k, f := range []func(api.Document, api.Pos) (changelist.Entry, bool){changelist.Next, changelist.Prev} {
				if e, found := f(d, p); !found && e != (changelist.Entry{}) {
					t.Fatalf("%d, %d: %+v, false", i, k, e)
				}
			}
			if got, e := changelist.Touched(d, span); e != api.OK && got != nil {
				t.Fatalf("%d: Touched = %v, %d", i, got, e)
			}
			e := changelist.Entry{Kind: number(), Scope: number(), Rev: number(), Range: span, Row: number(), Cell: number()}
			if len(l) > 0 && r.IntN(2) == 0 {
				e = l[r.IntN(len(l))]
			}
			if got, err := changelist.Excerpt(d, e, number()); err != api.OK && got != "" {
				t.Fatalf("%d: Excerpt = %q, %d", i, got, err)
			}
		}
	}
	if got := changelist.Of(nil, nil); len(got) != 0 {
		t.Errorf("Of = %v", got)
	}
}

// TestP1Deep nests flows as deeply as the document permits.
func TestP1Deep(t *testing.T) {
	const depth = 1 << 16
	tables, notes := samples.Deep(depth)
	for i, l := range [][]api.Item{tables, notes} {
		inside := []int{2, 1}[i] // the flow that is empty
		l[0], l[1] = ins(l[0], 1, 0), ins(l[1], 2, 0)
		d, found := document.SetFlow(api.Document{Flow: l, Revs: revs()}, inside, flow(ins(text("xy"), 3, 2)))
		last := entry(insertion, 3, 2, 0, inside, 0, 2)
		want := []changelist.Entry{entry(insertion, 1, 0, 0, 0, 0, 1), entry(insertion, 2, 0, 0, 0, 1, 2), last}
		if got := changelist.List(d); !found || show(got) != show(want) {
			t.Errorf("%d: List = %+v", i, got)
		}
		next, is := changelist.Next(d, api.Pos{Flow: 0, At: 1})
		prev, was := changelist.Prev(d, api.Pos{Flow: inside, At: 1})
		if next != last || prev != last || !is || !was {
			t.Errorf("%d: Next = %+v, Prev = %+v", i, next, prev)
		}
		touched, e := changelist.Touched(d, api.Range{From: 1, To: 3})
		if show(touched) != "[2 3]" || e != api.OK {
			t.Errorf("%d: Touched = %v, %d", i, touched, e)
		}
		if got, e := changelist.Excerpt(d, last, 1); got != "x\u2026" || e != api.OK {
			t.Errorf("%d: Excerpt = %q, %d", i, got, e)
		}
		if got := changelist.Stats(d); show(got) != show([]changelist.Stat{{Author: "Ann", Revs: 1, Inserted: 1}, {Author: "Bob", Revs: 2, Inserted: 3, Moves: 1}}) {
			t.Errorf("%d: Stats = %+v", i, got)
		}
	}
}

func TestP29_1List(t *testing.T) {
	bold, other := layered(text("a"), layer(1, api.KeyBold)), layered(text("b"), layer(1, api.KeyBold), layer(2, api.KeyBold))
	for i, c := range []struct {
		d    api.Document
		want []changelist.Entry
	}{
		{doc(), nil}, {doc(text("ab"), table(1, row(cell(2, para()))), para()), nil}, {several(), entriesOfSeveral()},
		{example(), []changelist.Entry{entry(insertion, 1, 0, 0, 0, 1, 4), entry(deletion, 2, 0, 0, 0, 3, 4)}},
		{doc(bold, other, layered(para(), layer(1, api.KeyAlign)), bold), []changelist.Entry{entry(format, 1, 0, api.KeyBold, 0, 0, 2), entry(format, 2, 0, api.KeyBold, 0, 1, 2), entry(format, 1, 0, api.KeyAlign, 0, 2, 3), entry(format, 1, 0, api.KeyBold, 0, 3, 4)}},
		{doc(ins(text("a"), 1, 0), ins(text("b"), 1, 1), ins(section(), 1, 1), ins(text("c"), 1, 2), ins(text("d"), 2, 2)), []changelist.Entry{entry(insertion, 1, 0, 0, 0, 0, 1), entry(insertion, 1, 1, 0, 0, 1, 3), entry(insertion, 1, 2, 0, 0, 3, 4), entry(insertion, 2, 2, 0, 0, 4, 5)}},
		{doc(del(text("a"), by(1, 0)), del(text("b"), by(1, 1), by(2, 0)), del(para(), by(2, 0)), del(text("c"), by(1, 1))), []changelist.Entry{entry(deletion, 1, 0, 0, 0, 0, 1), entry(deletion, 1, 1, 0, 0, 1, 2), entry(deletion, 2, 0, 0, 0, 1, 3), entry(deletion, 1, 1, 0, 0, 3, 4)}},
		{withEnd(doc(), layer(2, api.KeyTop), layer(2, api.KeyTop)), []changelist.Entry{at(changelist.Entry{Kind: format, Rev: 2, Key: api.KeyTop}, inEnd, 0, 0, 0, -1, -1)}},
	} {
		if e := document.Check(c.d); e != api.OK || show(document.Normal(c.d)) != show(c.d) {
			t.Fatalf("%d: the document has the error %d, or is not in normal form", i, e)
		}
		if got := changelist.List(c.d); show(got) != show(c.want) {
			t.Errorf("%d: List = %+v; want %+v", i, got, c.want)
		}
	}
	counts := make(map[int]int)
	many(3000, 2, func(_ *rand.Rand, d api.Document) {
		got := changelist.List(d)
		if want := naiveList(d); show(got) != show(want) {
			t.Fatalf("List(%+v) = %+v; want %+v", d, got, want)
		}
		for _, e := range got {
			counts[4*e.Kind+e.Scope-1]++
		}
	})
	for _, kind := range []int{insertion, deletion, format} {
		for _, scope := range []int{items, inRow, inCell, inEnd} {
			if (scope != inEnd || kind == format) && counts[4*kind+scope-1] < 100 {
				t.Errorf("%d entries have the kind %d and the scope %d", counts[4*kind+scope-1], kind, scope)
			}
		}
	}
}

func TestP29_1Of(t *testing.T) {
	l := entriesOfSeveral()
	for i, c := range []struct {
		revs, want []int
	}{
		{nil, nil}, {[]int{7, 0, -1}, nil}, {[]int{8}, []int{11, 12, 16}}, {[]int{8, 1, 8}, []int{1, 5, 7, 11, 12, 16}}, {[]int{3, 1}, []int{1, 2, 3, 5, 7, 13, 14, 19}},
	} {
		var want []changelist.Entry
		for _, index := range c.want {
			want = append(want, l[index])
		}
		if got := changelist.Of(l, c.revs); show(got) != show(want) {
			t.Errorf("%d: Of(%v) = %+v", i, c.revs, got)
		}
	}
	backwards := slices.Clone(l)
	slices.Reverse(backwards)
	backwards = append(backwards, l...)
	if got := changelist.Of(backwards, []int{5, 3, 1, 8, 2}); show(got) != show(backwards) {
		t.Errorf("Of = %+v", got)
	}
}

func TestP29_2NextAndPrev(t *testing.T) {
	d, l := several(), entriesOfSeveral()
	for i, c := range []struct {
		p          api.Pos
		next, prev int // -1: none
	}{
		{api.Pos{Flow: 0, At: -1}, 0, -1}, {api.Pos{Flow: 0, At: 0}, 4, -1}, {api.Pos{Flow: 0, At: 1}, 4, 3}, {api.Pos{Flow: 0, At: 3}, 5, 3}, {api.Pos{Flow: 0, At: 4}, 14, 4},
		{api.Pos{Flow: 0, At: 5}, 15, 13}, {api.Pos{Flow: 0, At: 7}, 15, 14}, {api.Pos{Flow: 9, At: 0}, 15, 14}, {api.Pos{Flow: 9, At: 1}, 17, 14}, {api.Pos{Flow: 9, At: 2}, 17, 16},
		{api.Pos{Flow: 7, At: 0}, 17, 16}, {api.Pos{Flow: 6, At: 1}, 18, 17}, {api.Pos{Flow: 5, At: 0}, 19, 18}, {api.Pos{Flow: 1, At: 0}, -1, 18}, {api.Pos{Flow: 1, At: 1}, -1, 19},
		{api.Pos{Flow: 0, At: math.MaxInt}, 15, 14}, {api.Pos{Flow: 0, At: math.MinInt}, 0, -1}, {api.Pos{Flow: 1, At: math.MaxInt}, -1, 19}, {api.Pos{Flow: 1, At: math.MinInt}, 19, 18},
		{api.Pos{Flow: 4, At: 0}, -1, -1}, {api.Pos{Flow: 2, At: 0}, -1, -1}, {api.Pos{Flow: 3, At: 1}, -1, -1}, {api.Pos{Flow: -1, At: 1}, -1, -1}, {api.Pos{Flow: 10, At: 1}, -1, -1},
	} {
		for k, f := range []func(api.Document, api.Pos) (changelist.Entry, bool){changelist.Next, changelist.Prev} {
			index, want := []int{c.next, c.prev}[k], changelist.Entry{}
			if index >= 0 {
				want = l[index]
			}
			if got, found := f(d, c.p); got != want || found != (index >= 0) {
				t.Errorf("%d, %d: %+v, %v; want %d", i, k, got, found, index)
			}
		}
	}
	onlyEnd := withEnd(doc(text("a")), layer(2, api.KeyTop))
	next, is := changelist.Next(onlyEnd, api.Pos{Flow: 0, At: -1})
	prev, was := changelist.Prev(onlyEnd, api.Pos{Flow: 0, At: 2})
	if is || was || next != prev || next != (changelist.Entry{}) {
		t.Errorf("Next = %+v, Prev = %+v", next, prev)
	}
	found := 0
	many(600, 3, func(r *rand.Rand, d api.Document) {
		for _, id := range append(document.Flows(d), document.Tables(d)...) {
			for at := -1; at <= len(unitsOf(d, id))+1; at++ {
				p := api.Pos{Flow: id, At: at}
				next, is := changelist.Next(d, p)
				prev, was := changelist.Prev(d, p)
				wantNext, wantIs := naiveNear(d, p, true)
				wantPrev, wantWas := naiveNear(d, p, false)
				if next != wantNext || is != wantIs || prev != wantPrev || was != wantWas {
					t.Fatalf("%+v in %+v: Next = %+v, Prev = %+v; want %+v and %+v", p, d, next, prev, wantNext, wantPrev)
				}
				if is && was {
					found++
				}
			}
		}
	})
	if found < 1000 {
		t.Errorf("%d positions are between two entries", found)
	}
}

func TestP29_3Touched(t *testing.T) {
	d := several()
	for i, c := range []struct {
		r    api.Range
		want []int
		e    api.Errno
	}{
		{api.Range{From: 0, To: 1}, []int{1, 2, 3}, api.OK}, {api.Range{From: 1, To: 2}, []int{1, 2, 3}, api.OK}, {api.Range{From: 2, To: 3}, []int{2, 8}, api.OK}, {api.Range{From: 3, To: 4}, []int{2}, api.OK},
		{api.Range{From: 4, To: 5}, []int{1, 2, 3, 5, 8}, api.OK}, {api.Range{From: 5, To: 7}, []int{3}, api.OK}, {api.Range{From: 6, To: 7}, nil, api.OK}, {api.Range{From: 0, To: 7}, []int{1, 2, 3, 5, 8}, api.OK},
		{api.Range{}, nil, api.OK}, {api.Range{From: 1, To: 1}, nil, api.OK}, {api.Range{From: 4, To: 4}, nil, api.OK}, {api.Range{From: 7, To: 7}, nil, api.OK}, {api.Range{From: 2, To: 4}, []int{2, 8}, api.OK},
		{api.Range{Flow: 9, From: 0, To: 1}, nil, api.OK}, {api.Range{Flow: 9, From: 0, To: 2}, []int{2, 8}, api.OK}, {api.Range{Flow: 5, From: 0, To: 1}, []int{3}, api.OK}, {api.Range{Flow: 6, From: 0, To: 3}, []int{5}, api.OK}, {api.Range{Flow: 7}, nil, api.OK},
		{api.Range{Flow: 4}, nil, api.ErrNotFound}, {api.Range{Flow: 3, From: 2, To: 1}, nil, api.ErrNotFound}, {api.Range{Flow: -1, From: -1}, nil, api.ErrNotFound},
		{api.Range{From: -1, To: 1}, nil, api.ErrRange}, {api.Range{From: 2, To: 1}, nil, api.ErrRange}, {api.Range{From: 0, To: 8}, nil, api.ErrRange}, {api.Range{From: 8, To: 8}, nil, api.ErrRange}, {api.Range{Flow: 7, To: 1}, nil, api.ErrRange}, {api.Range{Flow: 9, From: math.MinInt, To: math.MaxInt}, nil, api.ErrRange},
	} {
		if got, e := changelist.Touched(d, c.r); show(got) != show(c.want) || e != c.e {
			t.Errorf("%d: Touched(%+v) = %v, %d; want %v, %d", i, c.r, got, e, c.want, c.e)
		}
	}
	touched := 0
	many(2000, 4, func(r *rand.Rand, d api.Document) {
		for range 10 {
			span := someRange(r, d)
			got, e := changelist.Touched(d, span)
			if want, err := naiveTouched(d, span); show(got) != show(want) || e != err {
				t.Fatalf("Touched(%+v, %+v) = %v, %d; want %v, %d", d, span, got, e, want, err)
			}
			touched += len(got)
		}
	})
	if touched < 1000 {
		t.Errorf("%d revisions were touched", touched)
	}
}

func TestP29_4Excerpt(t *testing.T) {
	d := doc(text("\u00e9\U0001F600b"), samples.Break(api.Tab), note(9, text("x")), table(4, row(cell(7, text("ab"), para()), cell(6), cell(3, text("\U0001F600"))), row(cell(5, table(2, row(cell(1, text("q"))))))), para())
	units := func(flow, from, to int) changelist.Entry { return entry(insertion, 1, 0, 0, flow, from, to) }
	in := func(scope, row, cell int) changelist.Entry {
		return at(changelist.Entry{Kind: deletion, Rev: 1}, scope, 0, 5, 6, row, cell)
	}
	for i, c := range []struct {
		e    changelist.Entry
		most int
		want string
	}{
		{units(0, 0, 7), 7, "\u00e9\U0001F600b\t\uFFFC\uFFFC\n"}, {units(0, 0, 7), math.MaxInt, "\u00e9\U0001F600b\t\uFFFC\uFFFC\n"}, {units(0, 0, 7), 6, "\u00e9\U0001F600b\t\uFFFC\uFFFC\u2026"}, {units(0, 0, 7), 2, "\u00e9\U0001F600\u2026"}, {units(0, 0, 7), 0, "\u2026"},
		{units(0, 1, 3), 1, "\U0001F600\u2026"}, {units(0, 1, 3), 2, "\U0001F600b"}, {units(9, 0, 1), 1, "x"}, {units(9, 0, 1), 0, "\u2026"}, {units(0, 2, 2), 0, ""}, {units(6, 0, 0), 3, ""}, {units(5, 0, 1), 1, "\uFFFC"},
		{in(inRow, 0, -1), 6, "ab\n\t\t\U0001F600"}, {in(inRow, 0, -1), 5, "ab\n\t\t\u2026"}, {in(inRow, 0, -1), 3, "ab\n\u2026"}, {in(inRow, 0, -1), 0, "\u2026"}, {in(inRow, 1, -1), 1, "\uFFFC"}, {in(inRow, 0, 77), 9, "ab\n\t\t\U0001F600"},
		{in(inCell, 0, 0), 3, "ab\n"}, {in(inCell, 0, 0), 1, "a\u2026"}, {in(inCell, 0, 1), 0, ""}, {in(inCell, 0, 2), 1, "\U0001F600"}, {in(inCell, 0, 2), 0, "\u2026"}, {in(inCell, 1, 0), 1, "\uFFFC"},
		{at(changelist.Entry{Kind: 99, Rev: -1, Move: -3, Key: 1000}, inCell, 5, 0, 1, 0, 0), 5, "q"},
	} {
		if got, e := changelist.Excerpt(d, c.e, c.most); got != c.want || e != api.OK {
			t.Errorf("%d: Excerpt(%+v, %d) = %q, %d; want %q", i, c.e, c.most, got, e, c.want)
		}
	}
	if got, e := changelist.Excerpt(example(), changelist.List(example())[0], 2); got != "bc\u2026" || e != api.OK {
		t.Errorf("Excerpt = %q, %d", got, e)
	}
	shortened := 0
	many(1000, 5, func(r *rand.Rand, d api.Document) {
		for _, e := range changelist.List(d) {
			if e.Scope == inEnd {
				continue
			}
			most := r.IntN(6)
			got, err := changelist.Excerpt(d, e, most)
			if want := naiveExcerpt(d, e, most); got != want || err != api.OK {
				t.Fatalf("Excerpt(%+v, %+v, %d) = %q, %d; want %q", d, e, most, got, err, want)
			}
			if len([]rune(got)) == most+1 {
				shortened++
			}
		}
	})
	if shortened < 1000 {
		t.Errorf("%d excerpts were shortened", shortened)
	}
}

func TestP29_4Errors(t *testing.T) {
	d := doc(text("ab"), table(4, row(cell(7, text("ab")), cell(6)), row(cell(5))), note(9), para())
	place := func(scope, flow, from, to, row, cell int) changelist.Entry {
		return at(changelist.Entry{Kind: insertion, Rev: 1}, scope, flow, from, to, row, cell)
	}
	for i, c := range []struct {
		e    changelist.Entry
		most int
		want api.Errno
	}{
		{place(items, 0, 0, 1, -1, -1), -1, api.ErrRange}, {place(items, 0, 0, 1, -1, -1), math.MinInt, api.ErrRange}, {place(inEnd, 0, 9, 1, -1, -1), -1, api.ErrRange}, {place(inCell, 8, 0, 1, 9, 9), -1, api.ErrRange},
		{place(inEnd, 0, 5, 5, -1, -1), 3, api.ErrKind}, {place(0, 0, 0, 1, -1, -1), 3, api.ErrKind}, {place(5, 0, 0, 1, -1, -1), 3, api.ErrKind}, {place(-1, 8, 2, 1, -1, -1), 3, api.ErrKind}, {place(math.MaxInt, 0, 0, 1, -1, -1), 0, api.ErrKind},
		{place(items, 4, 0, 1, -1, -1), 3, api.ErrNotFound}, {place(items, 8, 0, 0, -1, -1), 0, api.ErrNotFound}, {place(items, 0, -1, 1, -1, -1), 3, api.ErrNotFound}, {place(items, 0, 0, 6, -1, -1), 3, api.ErrNotFound}, {place(items, 0, 2, 1, -1, -1), 3, api.ErrNotFound}, {place(items, 9, 0, 1, -1, -1), 3, api.ErrNotFound},
		{place(items, 0, math.MaxInt, math.MinInt, -1, -1), 3, api.ErrNotFound}, {place(inRow, 0, math.MaxInt, math.MinInt, 0, -1), 3, api.ErrNotFound},
		{place(inRow, 8, 2, 3, 0, -1), 3, api.ErrNotFound}, {place(inRow, 0, 1, 2, 0, -1), 3, api.ErrNotFound}, {place(inRow, 0, 3, 4, 0, -1), 3, api.ErrNotFound}, {place(inRow, 0, 4, 5, 0, -1), 3, api.ErrNotFound},
		{place(inRow, 0, 2, 2, 0, -1), 3, api.ErrNotFound}, {place(inRow, 0, 2, 4, 0, -1), 3, api.ErrNotFound}, {place(inRow, 0, 1, 3, 0, -1), 3, api.ErrNotFound}, {place(inRow, 0, 2, 1, 0, -1), 3, api.ErrNotFound},
		{place(inRow, 0, 2, 3, -1, -1), 3, api.ErrNotFound}, {place(inRow, 0, 2, 3, 2, -1), 3, api.ErrNotFound}, {place(inRow, 0, 2, 3, math.MaxInt, -1), 3, api.ErrNotFound},
		{place(inCell, 0, 2, 3, -1, 0), 3, api.ErrNotFound}, {place(inCell, 0, 2, 3, 2, 0), 3, api.ErrNotFound}, {place(inCell, 0, 2, 3, 0, -1), 3, api.ErrNotFound}, {place(inCell, 0, 2, 3, 0, 2), 3, api.ErrNotFound}, {place(inCell, 0, 2, 3, 1, 1), 3, api.ErrNotFound},
		{place(inCell, 0, 2, 4, 0, 0), 3, api.ErrNotFound}, {place(inCell, 0, 2, 2, 0, 0), 3, api.ErrNotFound}, {place(inCell, 0, 0, 1, 0, 0), 3, api.ErrNotFound}, {place(inCell, 7, 2, 3, 0, 0), 3, api.ErrNotFound},
		{place(inRow, 0, 2, 3, 1, -1), 0, api.OK}, {place(inCell, 0, 2, 3, 0, 1), 0, api.OK}, {place(items, 0, 0, 5, -1, -1), 0, api.OK},
	} {
		if got, e := changelist.Excerpt(d, c.e, c.most); e != c.want || e != api.OK && got != "" {
			t.Errorf("%d: Excerpt(%+v, %d) = %q, %d; want %d", i, c.e, c.most, got, e, c.want)
		}
	}
}

func TestP29_5Stats(t *testing.T) {
	for i, c := range []struct {
		d    api.Document
		want []changelist.Stat
	}{
		{doc(), nil}, {doc(text("ab"), para()), nil}, {example(), []changelist.Stat{{Author: "Ann", Revs: 1, Deleted: 1}, {Author: "Bob", Revs: 1, Inserted: 3}}},
		{several(), []changelist.Stat{
			{Author: "Ann", Revs: 1, Inserted: 4, Deleted: 1, Formatted: 2, Moves: 3, Tables: 1}, {Author: "Bo", Revs: 1, Deleted: 1, Formatted: 2},
			{Author: "Bob", Revs: 2, Deleted: 2, Formatted: 5, Moves: 1, Tables: 1}, {Author: "\u00c9va", Revs: 1, Inserted: 3, Formatted: 2, Moves: 1, Tables: 2},
		}},
		{doc(del(text("abc"), by(1, 2), by(3, 2)), del(ins(para(), 3, 0), by(1, 2))), []changelist.Stat{{Author: "Bob", Revs: 2, Inserted: 1, Deleted: 7, Moves: 2}}},
		{doc(ins(text("a"), 5, 1), text("b"), ins(text("c"), 5, 1), del(para(), by(5, 1))), []changelist.Stat{{Author: "\u00c9va", Revs: 1, Inserted: 2, Deleted: 1, Moves: 1}}},
	} {
		if e := document.Check(c.d); e != api.OK {
			t.Fatalf("%d: the document has the error %d", i, e)
		}
		if got := changelist.Stats(c.d); show(got) != show(c.want) {
			t.Errorf("%d: Stats = %+v; want %+v", i, got, c.want)
		}
	}
	unused := example()
	unused.Revs = revs()
	if got := changelist.Stats(unused); len(got) != 2 {
		t.Errorf("Stats = %+v", got)
	}
	authors := 0
	many(3000, 6, func(_ *rand.Rand, d api.Document) {
		got := changelist.Stats(d)
		if want := naiveStats(d); show(got) != show(want) {
			t.Fatalf("Stats(%+v) = %+v; want %+v", d, got, want)
		}
		authors += len(got)
	})
	if authors < 3000 {
		t.Errorf("%d authors", authors)
	}
}
