package move_test

import (
	"math"
	"math/rand/v2"
	"slices"
	"strings"
	"testing"

	"obelus/api"
	"obelus/document"
	"obelus/move"
	"obelus/resolve"
	"obelus/samples"
	"obelus/track"
)

// abcd is the document of the chapter's first example.
func abcd() api.Document {
	return doc(from(text("ab"), by(1, 1)), text("c"), to(text("ab"), 1, 1), text("d"))
}

// several has moves between several flows, and numbers in the heads of rows and cells.
func several() api.Document {
	in := row(cell(3, to(text("x"), 2, 4), from(para(), by(2, 1)), to(text("\u00e9\U0001F600"), 2, 4)))
	in.Head.Marks = api.Marks{Ins: 1, Move: 6}
	in.Cells[0].Head.Marks.Dels = []api.Del{by(2, 9)}
	return doc(
		to(text("a"), 2, 4), from(text("b"), by(1, 2), by(2, 4)), from(to(text("c"), 2, 4), by(5, 1)), note(8, from(text("d"), by(2, 4)), from(text("e"), by(1, 2), by(5, 3))),
		to(table(2, in), 5, 1), from(text("f"), by(2, 4)), text("g"), from(text("hi"), by(2, 4)), from(text("j"), by(1, 0)), to(para(), 1, 2),
	)
}

func TestP1AllArguments(t *testing.T) {
	r := rand.New(rand.NewPCG(26, 1))
	negative := to(from(text("a"), by(-1, -2), by(0, 3)), 1, -1)
	wild := []api.Document{{}, {Flow: flow(negative, negative)}, {Flow: flow(to(text("\xFF"), 1, 1), from(para(), by(1, 1)))}, {Flow: flow(to(text(""), 1, 1), table(1), from(table(1, row()), by(1, 1)), note(1, table(1, row(cell(1, negative)), row())))}, {Flow: flow(api.Item{Kind: 99, Flow: flow(negative), Rows: []api.Row{row(cell(0, negative))}}), End: negative.Head}, {Flow: flow(note(0, to(text("ab"), 1, 1)), from(text("ab"), by(1, 1)), note(0, to(text("ab"), 1, 1)))}}
	for range 500 {
		wild = append(wild, moved(r, samples.Wrong(r.IntN)), samples.Wrong(r.IntN), moved(r, samples.Document(r.IntN)))
	}
	numbers := append(samples.Numbers(), 4002, 8003)
	number := func() int { return numbers[r.IntN(len(numbers))] }
	for i, d := range wild {
		move.List(d)
		move.Problems(d)
		move.UnmoveAll(d)
		move.Canonical(d)
		for at := range 4 {
			move.Partner(d, pos(0, at))
		}
		for range 20 {
			rev, n, p := number(), number(), pos(number(), number())
			if got, found := move.Find(d, rev, n); !found && show(got) != show(move.Move{}) {
				t.Fatalf("%d: Find = %+v", i, got)
			}
			if got, e := move.Unmove(d, rev, n); e != api.OK && !isEmpty(got) {
				t.Fatalf("%d: Unmove = %+v, %d", i, got, e)
			}
			if got, found := move.Partner(d, p); !found && got != (api.Pos{}) {
				t.Fatalf("%d: Partner = %v", i, got)
			}
			move.Size(move.Move{Rev: rev, Sources: []api.Range{span(1, number(), number()), span(number(), number(), 3)}, Targets: []api.Range{span(0, number(), 0)}})
		}
	}
}

// TestP1Deep nests flows as deeply as the document permits.
func TestP1Deep(t *testing.T) {
	deep := 1 << 16
	tables, notes := samples.Deep(deep)
	for i, l := range [][]api.Item{tables, notes} {
		d, _ := document.SetFlow(doc(to(text("x"), 1, 1), l[1]), 4, flow(from(text("x"), by(1, 1))))
		d.Flow[0] = to(text("x"), 1, 1)
		want := move.Move{Rev: 1, Number: 1, Sources: []api.Range{span(4, 0, 1)}, Targets: []api.Range{span(0, 0, 1)}}
		if got := move.List(d); show(got) != show([]move.Move{want}) {
			t.Errorf("%d: List = %+v", i, got)
		}
		if got, found := move.Partner(d, pos(4, 0)); got != pos(0, 0) || !found {
			t.Errorf("%d: Partner = %v, %v", i, got, found)
		}
		if got, e := move.Unmove(d, 1, 1); len(move.List(got)) > 0 || e != api.OK {
			t.Errorf("%d: Unmove leaves moves, %d", i, e)
		}
		if got := move.Canonical(d); len(move.List(got)) != 1 {
			t.Errorf("%d: Canonical leaves %d moves", i, len(move.List(got)))
		}
	}
}

func TestP26_1List(t *testing.T) {
	for i, c := range []struct {
		d    api.Document
		want []move.Move
	}{
		{doc(), nil}, {doc(text("a"), to(text("b"), 1, 0), from(text("c"), by(1, 0))), nil},
		{abcd(), []move.Move{{1, 1, []api.Range{span(0, 0, 2)}, []api.Range{span(0, 3, 5)}}}},
		{doc(from(text("ab"), by(1, 3), by(2, 1)), from(text("c"), by(2, 1)), to(from(text("d"), by(2, 1)), 1, 3), to(para(), 1, 3)), []move.Move{{1, 3, []api.Range{span(0, 0, 2)}, []api.Range{span(0, 3, 5)}}, {2, 1, []api.Range{span(0, 0, 4)}, nil}}},
		{several(), []move.Move{
			{1, 2, []api.Range{span(0, 1, 2), span(8, 1, 2)}, []api.Range{span(0, 10, 11)}},
			{2, 1, []api.Range{span(3, 1, 2)}, nil},
			{2, 4, []api.Range{span(0, 1, 2), span(0, 5, 6), span(0, 7, 9), span(8, 0, 1)}, []api.Range{span(0, 0, 1), span(0, 2, 3), span(3, 0, 1), span(3, 2, 4)}},
			{5, 1, []api.Range{span(0, 2, 3)}, []api.Range{span(0, 4, 5)}},
			{5, 3, []api.Range{span(8, 1, 2)}, nil},
		}},
		// a unit can belong to both sides of a move; numbers of rows and cells are no moves
		{doc(from(to(text("ab"), 1, 1), by(1, 1))), []move.Move{{1, 1, []api.Range{span(0, 0, 2)}, []api.Range{span(0, 0, 2)}}}}, {doc(table(2, several().Flow[4].Rows[0])), []move.Move{{2, 1, []api.Range{span(3, 1, 2)}, nil}, {2, 4, nil, []api.Range{span(3, 0, 1), span(3, 2, 4)}}}},
	} {
		if document.Check(c.d) != api.OK {
			t.Fatalf("%d: the document has the error %d", i, document.Check(c.d))
		}
		if got := move.List(c.d); show(got) != show(c.want) {
			t.Errorf("%d: List = %+v; want %+v", i, got, c.want)
		}
		for _, want := range c.want {
			if got, found := move.Find(c.d, want.Rev, want.Number); show(got) != show(want) || !found {
				t.Errorf("%d: Find = %+v, %v; want %+v", i, got, found, want)
			}
		}
	}
	for _, p := range []pair{{1, 0}, {1, 1}, {1, 6}, {2, 9}, {2, 2}, {0, 0}, {3, 4}, {-1, -1}, {math.MinInt, math.MaxInt}} {
		if got, found := move.Find(several(), p.rev, p.number); found || show(got) != show(move.Move{}) {
			t.Errorf("Find(%v) = %+v, %v", p, got, found)
		}
	}
}

func TestP26_1Many(t *testing.T) {
	found, both := 0, 0
	many(4000, 2, func(_ *rand.Rand, d api.Document) {
		var want []move.Move
		for _, p := range naivePairs(d) {
			want = append(want, naiveMove(d, p))
		}
		got := move.List(d)
		if show(got) != show(want) {
			t.Fatalf("List(%+v) = %+v; want %+v", d, got, want)
		}
		for rev := range 10 {
			for number := range 5 {
				i := slices.IndexFunc(want, func(m move.Move) bool { return m.Rev == rev && m.Number == number })
				one, is := move.Find(d, rev, number)
				if is != (i >= 0) || is && show(one) != show(want[i]) || !is && show(one) != show(move.Move{}) {
					t.Fatalf("Find(%+v, %d, %d) = %+v, %v", d, rev, number, one, is)
				}
			}
		}
		for _, m := range got {
			found++
			source, target := move.Size(m)
			sources, _ := unitsOf(d, isSource(pair{m.Rev, m.Number}))
			targets, _ := unitsOf(d, isTarget(pair{m.Rev, m.Number}))
			if source != len(sources) || target != len(targets) {
				t.Fatalf("Size(%+v) = %d, %d", m, source, target)
			}
			if source > 0 && target > 0 {
				both++
			}
		}
	})
	if found < 2000 || both < 300 {
		t.Errorf("there were %d moves, %d of them with both sides", found, both)
	}
}

func TestP26_1Size(t *testing.T) {
	for i, c := range []struct {
		m              move.Move
		source, target int
	}{{move.Move{}, 0, 0}, {move.Move{Sources: []api.Range{span(3, 2, 5)}}, 3, 0}, {move.Move{Targets: []api.Range{span(3, 2, 5), span(0, 0, 1), span(0, 7, 7)}}, 0, 4}, {move.Move{Rev: 5, Number: 6, Sources: []api.Range{span(1, 5, 2)}, Targets: []api.Range{span(1, -2, 5)}}, -3, 7}} {
		if source, target := move.Size(c.m); source != c.source || target != c.target {
			t.Errorf("%d: Size = %d, %d", i, source, target)
		}
	}
}

func TestP26_2Problems(t *testing.T) {
	bold := []api.Prop{{Key: api.KeyBold, Value: 1}}
	for i, c := range []struct {
		d    api.Document
		want []move.Problem
	}{
		{doc(), nil}, {abcd(), nil}, {several(), []move.Problem{{1, 2, move.Changed}, {2, 1, move.NoTarget}, {2, 4, move.Changed}, {5, 1, move.Changed}, {5, 3, move.NoTarget}}},
		{doc(to(text("a"), 1, 1)), []move.Problem{{1, 1, move.NoSource}}}, {doc(from(text("a"), by(1, 1))), []move.Problem{{1, 1, move.NoTarget}}}, {doc(from(text("a"), by(1, 2)), to(text("a"), 1, 1), to(text("a"), 2, 2)), []move.Problem{{1, 1, move.NoSource}, {1, 2, move.NoTarget}, {2, 2, move.NoSource}}},
		// only the characters count
		{doc(from(text("ab"), by(1, 1)), to(text("b"), 1, 1), text("x"), to(text("a"), 1, 1)), []move.Problem{{1, 1, move.Changed}}}, {doc(from(text("ab"), by(1, 1)), to(text("a", bold...), 1, 1), text("x"), to(text("b"), 1, 1)), nil}, {doc(from(note(1, text("a")), by(1, 1)), to(note(2, text("b")), 1, 1)), nil}, {doc(from(note(1), by(1, 1)), to(table(2, row(cell(3))), 1, 1)), nil}, {doc(from(para(), by(1, 1)), to(section(), 1, 1)), []move.Problem{{1, 1, move.Changed}}}, {doc(from(para(), by(1, 1)), to(text("\n"), 1, 1)), nil}, {doc(from(text("aa"), by(1, 1)), to(text("a"), 1, 1)), []move.Problem{{1, 1, move.Changed}}},
		{doc(from(samples.Break(api.Tab), by(1, 1)), to(samples.Break(api.LineBreak), 1, 1)), []move.Problem{{1, 1, move.Changed}}}, {doc(from(to(text("ab"), 1, 1), by(1, 1))), nil},
	} {
		if got := move.Problems(c.d); show(got) != show(c.want) {
			t.Errorf("%d: Problems = %v; want %v", i, got, c.want)
		}
	}
	// the chapter's second and third examples
	struck := track.Change{Edit: api.Edit{Kind: api.EditDelete, At: 2, Count: 1}, Rev: api.Rev{Id: 2, Author: "Bob"}}
	d, _, e := track.Run(abcd(), []track.Change{struck})
	if got := move.List(d); show(got) != show(move.List(abcd())) || len(move.Problems(d)) > 0 || e != api.OK {
		t.Errorf("with a deletion: %+v, %v, %d", got, move.Problems(d), e)
	}
	accepted, _ := resolve.Accept(d, []int{2})
	if got := move.Problems(accepted); show(got) != show([]move.Problem{{1, 1, move.Changed}}) {
		t.Errorf("with an accepted deletion: %v", got)
	}
	for _, f := range []func(api.Document, []int) (api.Document, api.Errno){resolve.Accept, resolve.Reject} {
		if left, _ := f(d, []int{1}); len(move.List(left)) > 0 || len(move.Problems(left)) > 0 {
			t.Errorf("moves are left: %+v", left)
		}
	}
	codes := make(map[int]int)
	many(4000, 3, func(_ *rand.Rand, d api.Document) {
		got, want := move.Problems(d), naiveProblems(d)
		if show(got) != show(want) {
			t.Fatalf("Problems(%+v) = %v; want %v", d, got, want)
		}
		for _, p := range got {
			codes[p.Code]++
		}
	})
	if codes[move.NoSource] < 300 || codes[move.NoTarget] < 300 || codes[move.Changed] < 200 {
		t.Errorf("the problems are %v", codes)
	}
}

func TestP26_3Partner(t *testing.T) {
	two := doc(from(text("abc"), by(1, 1)), to(text("a"), 1, 1), text("x"), note(7, to(text("bc"), 1, 1)), from(to(text("y"), 2, 3), by(1, 2)), to(text("y"), 1, 2), from(text("z"), by(1, 0), by(2, 3), by(5, 1)))
	for i, c := range []struct {
		d        api.Document
		at, want api.Pos
		found    bool
	}{
		{abcd(), pos(0, 1), pos(0, 4), true}, {abcd(), pos(0, 0), pos(0, 3), true}, {abcd(), pos(0, 4), pos(0, 1), true}, {abcd(), pos(0, 2), pos(0, 0), false}, {abcd(), pos(0, 5), pos(0, 0), false}, {abcd(), pos(0, 6), pos(0, 0), false}, {abcd(), pos(0, -1), pos(0, 0), false}, {abcd(), pos(1, 0), pos(0, 0), false}, {abcd(), pos(-1, 0), pos(0, 0), false}, {abcd(), pos(0, math.MaxInt), pos(0, 0), false}, {doc(), pos(0, 0), pos(0, 0), false},
		{two, pos(0, 0), pos(0, 3), true}, {two, pos(0, 1), pos(7, 0), true}, {two, pos(0, 2), pos(7, 1), true}, {two, pos(0, 3), pos(0, 0), true}, {two, pos(7, 0), pos(0, 1), true}, {two, pos(7, 1), pos(0, 2), true}, {two, pos(0, 4), pos(0, 0), false}, {two, pos(0, 5), pos(0, 0), false},
		{two, pos(0, 6), pos(0, 8), true}, {two, pos(0, 7), pos(0, 6), true}, {two, pos(0, 8), pos(0, 6), true}, // the target counts first, then the first deletion of a move
		{doc(from(text("ab"), by(1, 1)), to(text("a"), 1, 1)), pos(0, 0), pos(0, 0), false}, {doc(from(text("ab"), by(1, 1)), to(text("a"), 1, 1)), pos(0, 2), pos(0, 0), false}, {doc(to(text("a"), 1, 1)), pos(0, 0), pos(0, 0), false}, {doc(from(text("ab"), by(1, 1)), to(text("xy"), 1, 1)), pos(0, 1), pos(0, 3), true},
		{doc(from(to(text("ab"), 1, 1), by(1, 1))), pos(0, 1), pos(0, 1), true},
	} {
		if got, found := move.Partner(c.d, c.at); got != c.want || found != c.found {
			t.Errorf("%d: Partner(%v) = %v, %v; want %v, %v", i, c.at, got, found, c.want, c.found)
		}
	}
	partners, elsewhere := 0, 0
	many(3000, 4, func(_ *rand.Rand, d api.Document) {
		for _, id := range append(document.Flows(d), 9999) {
			l, _ := document.Flow(d, id)
			for at := -1; at <= len(samples.Units(l)); at++ {
				p := pos(id, at)
				want, source, is := naivePartner(d, p)
				got, found := move.Partner(d, p)
				if got != want || found != is {
					t.Fatalf("Partner(%+v, %v) = %v, %v; want %v, %v", d, p, got, found, want, is)
				}
				if !found {
					continue
				}
				partners++
				if got.Flow != id {
					elsewhere++
				}
				if back, found := move.Partner(d, got); source && (back != p || !found) {
					t.Fatalf("Partner leads from %v to %v and back to %v, %v", p, got, back, found)
				}
			}
		}
	})
	if partners < 500 || elsewhere < 50 {
		t.Errorf("there were %d partners, %d in another flow", partners, elsewhere)
	}
}

func TestP26_4Unmove(t *testing.T) {
	if got, e := move.Unmove(abcd(), 1, 1); show(got) != show(doc(from(text("ab"), by(1, 0)), text("c"), to(text("ab"), 1, 0), text("d"))) || e != api.OK {
		t.Errorf("Unmove = %+v, %d", got, e)
	}
	joins := doc(from(text("a"), by(1, 1)), from(text("b"), by(1, 0)), to(text("c"), 2, 1), to(text("d"), 2, 2), to(text("e"), 2, 0))
	if got, e := move.Unmove(joins, 1, 1); show(got) != show(doc(from(text("ab"), by(1, 0)), to(text("c"), 2, 1), to(text("d"), 2, 2), to(text("e"), 2, 0))) || e != api.OK {
		t.Errorf("Unmove = %+v, %d", got, e)
	}
	if got, e := move.Unmove(joins, 2, 2); show(got) != show(doc(from(text("a"), by(1, 1)), from(text("b"), by(1, 0)), to(text("c"), 2, 1), to(text("de"), 2, 0))) || e != api.OK {
		t.Errorf("Unmove = %+v, %d", got, e)
	}
	if got := move.UnmoveAll(joins); show(got) != show(doc(from(text("ab"), by(1, 0)), to(text("cde"), 2, 0))) {
		t.Errorf("UnmoveAll = %+v", got)
	}
	for _, p := range []pair{{1, 6}, {2, 9}, {2, 4}, {5, 3}} { // also those of a row and of a cell
		got, e := move.Unmove(several(), p.rev, p.number)
		if want := withNumbers(several(), without(p)); show(got) != show(want) || e != api.OK || show(got) == show(several()) {
			t.Errorf("Unmove(%v) = %+v, %d; want %+v", p, got, e, want)
		}
	}
	for _, p := range []pair{{1, 0}, {2, 0}, {0, 0}, {1, 1}, {2, 6}, {3, 4}, {-1, 4}, {1, -1}, {math.MaxInt, math.MinInt}} {
		if got, e := move.Unmove(several(), p.rev, p.number); !isEmpty(got) || e != api.ErrNotFound {
			t.Errorf("Unmove(%v) = %+v, %d", p, got, e)
		}
	}
	done := make(map[bool]int)
	many(4000, 5, func(r *rand.Rand, d api.Document) {
		all := []pair{{1 + r.IntN(4), r.IntN(4)}}
		for _, h := range headsOf(d.Flow) {
			all = append(all, pairsOf(h)...)
		}
		p := all[r.IntN(len(all))]
		want, failure := withNumbers(d, without(p)), api.OK
		if p.number == 0 || !slices.Contains(all[1:], p) {
			want, failure = api.Document{}, api.ErrNotFound
		}
		if got, e := move.Unmove(d, p.rev, p.number); show(got) != show(want) || e != failure {
			t.Fatalf("Unmove(%+v, %v) = %+v, %d; want %+v, %d", d, p, got, e, want, failure)
		}
		done[failure == api.OK]++
		want = withNumbers(d, func(pair) int { return 0 })
		if got := move.UnmoveAll(d); show(got) != show(want) || len(move.List(got)) > 0 {
			t.Fatalf("UnmoveAll(%+v) = %+v; want %+v", d, got, want)
		}
		every := d
		for _, p := range all[1:] {
			if next, e := move.Unmove(every, p.rev, p.number); e == api.OK {
				every = next
			}
		}
		if show(every) != show(want) {
			t.Fatalf("all pairs of %+v one by one: %+v; want %+v", d, every, want)
		}
	})
	if done[true] < 500 || done[false] < 500 {
		t.Errorf("%v were found", done)
	}
}

// without returns a function that sets the number of a pair to 0.
func without(p pair) func(own pair) int {
	return func(own pair) int {
		if own == p {
			return 0
		}
		return own.number
	}
}

func TestP26_5Canonical(t *testing.T) {
	in, out := row(cell(3, to(text("x"), 1, 4))), row(cell(3, to(text("x"), 1, 3)))
	in.Head.Marks, in.Cells[0].Head.Marks = api.Marks{Ins: 1, Move: 7, Dels: []api.Del{by(1, 3)}}, api.Marks{Dels: []api.Del{by(2, 9)}}
	out.Head.Marks, out.Cells[0].Head.Marks = api.Marks{Ins: 1, Move: 1, Dels: []api.Del{by(1, 2)}}, api.Marks{Dels: []api.Del{by(2, 1)}}
	for i, c := range []struct{ d, want api.Document }{
		{doc(), doc()}, {abcd(), abcd()}, {doc(text("a"), to(para(), 1, 0)), doc(text("a"), to(para(), 1, 0))},
		{doc(to(text("a"), 1, 5), from(text("b"), by(1, 2), by(2, 5)), to(text("c"), 2, 2), from(text("d"), by(1, 5))), doc(to(text("a"), 1, 1), from(text("b"), by(1, 2), by(2, 1)), to(text("c"), 2, 2), from(text("d"), by(1, 1)))},
		{doc(from(to(text("a"), 2, 8), by(1, 9), by(2, 1)), from(to(text("b"), 2, 1), by(1, 0))), doc(from(to(text("a"), 2, 1), by(1, 1), by(2, 2)), from(to(text("b"), 2, 2), by(1, 0)))},
		{doc(table(2, in), from(text("y"), by(1, 7))), doc(table(2, out), from(text("y"), by(1, 1)))},
		{doc(to(note(1, to(text("n"), 1, api.MaxId)), 1, 6), to(text("m"), 1, api.MaxId)), doc(to(note(1, to(text("n"), 1, 2)), 1, 1), to(text("m"), 1, 2))},
	} {
		if got := move.Canonical(c.d); show(got) != show(c.want) {
			t.Errorf("%d: Canonical = %+v; want %+v", i, got, c.want)
		}
	}
	changed := 0
	many(4000, 6, func(_ *rand.Rand, d api.Document) {
		got, want := move.Canonical(d), naiveCanonical(d)
		if show(got) != show(want) {
			t.Fatalf("Canonical(%+v) = %+v; want %+v", d, got, want)
		}
		if again := move.Canonical(got); show(again) != show(got) {
			t.Fatalf("Canonical applied twice is %+v; want %+v", again, got)
		}
		if before, after := sides(d), sides(got); !slices.Equal(before, after) {
			t.Fatalf("the ranges %v became %v", before, after)
		}
		if show(got) != show(d) {
			changed++
		}
	})
	if changed < 500 {
		t.Errorf("%d documents have changed", changed)
	}
}

// sides returns the moves of a document without their numbers.
func sides(d api.Document) (all []string) {
	for _, m := range move.List(d) {
		m.Number = 0
		all = append(all, show(m))
	}
	slices.Sort(all)
	return all
}

// TestP26_6Tracked looks at moves that were tracked just now.
func TestP26_6Tracked(t *testing.T) {
	r := rand.New(rand.NewPCG(26, 7))
	found, none := 0, 0
	for found+none < 600 {
		d, rev := document.Normal(samples.Document(r.IntN)), samples.Revs()[r.IntN(5)]
		e := samples.Edit(r.IntN, resolve.Final(d))
		if e.Kind != api.EditMove {
			continue
		}
		e.Fresh = document.Fresh(d)
		number := track.Move(d, rev.Id)
		got, err := track.Track(d, e, rev)
		if err != api.OK {
			continue
		}
		m, is := move.Find(got, rev.Id, number)
		if !is {
			none++ // all units were inserted by the revision itself
			continue
		}
		found++
		if source, target := move.Size(m); source != target || source == 0 {
			t.Fatalf("%+v of %+v: %+v", e, d, m)
		}
		if slices.ContainsFunc(move.Problems(got), func(p move.Problem) bool { return p.Rev == rev.Id && p.Number == number }) {
			t.Fatalf("%+v of %+v: the problems are %v", e, d, move.Problems(got))
		}
		for i, p := range [][]api.Range{m.Sources, m.Targets} {
			if partner, is := move.Partner(got, pos(p[0].Flow, p[0].From)); i == 1 && (partner != pos(m.Sources[0].Flow, m.Sources[0].From) || !is) {
				t.Fatalf("%+v of %+v: the partner is %v, %v", e, d, partner, is)
			}
		}
	}
	if found < 300 || none < 10 {
		t.Errorf("%d moves, %d without a number", found, none)
	}
}

func TestP26_6Decisions(t *testing.T) {
	many(3000, 8, func(r *rand.Rand, d api.Document) {
		c := samples.Decision(r.IntN, document.Used(d))
		resolved, _ := resolve.Resolve(d, c)
		other, _ := resolve.Resolve(move.UnmoveAll(d), c)
		if show(move.UnmoveAll(resolved)) != show(other) {
			t.Fatalf("%+v, resolved by %v: %+v, and in the other order: %+v", d, c, move.UnmoveAll(resolved), other)
		}
		if show(resolve.Final(move.UnmoveAll(d))) != show(resolve.Final(d)) || show(resolve.Original(move.UnmoveAll(d))) != show(resolve.Original(d)) {
			t.Fatalf("the views of %+v depend on numbers of moves", d)
		}
	})
}

func TestP26_6NewMemory(t *testing.T) {
	many(2000, 9, func(r *rand.Rand, d api.Document) {
		before := show(d) + show(d.Flow[:cap(d.Flow)])
		unmoved, canonical := move.UnmoveAll(d), move.Canonical(d)
		values := []any{d, unmoved, canonical}
		for _, m := range move.List(d) {
			one, _ := move.Find(d, m.Rev, m.Number)
			other, e := move.Unmove(d, m.Rev, m.Number)
			values = append(values, m.Sources, m.Targets, one.Sources, one.Targets, other)
			if e != api.OK || document.Check(other) != api.OK || !document.Equal(other, document.Normal(other)) {
				t.Fatalf("Unmove(%+v, %d, %d) = %+v, %d", d, m.Rev, m.Number, other, e)
			}
		}
		for _, got := range []api.Document{unmoved, canonical} {
			if document.Check(got) != api.OK || !document.Equal(got, document.Normal(got)) {
				t.Fatalf("the result for %+v is %+v, with the error %d", d, got, document.Check(got))
			}
		}
		move.Problems(d)
		move.Partner(d, pos(0, 0))
		if !samples.Apart(values...) || show(d)+show(d.Flow[:cap(d.Flow)]) != before {
			t.Fatalf("memory of %+v is shared, or it was changed", d)
		}
	})
}

// TestP26_6Large looks at a document of the greatest size, with many moves and many flows.
func TestP26_6Large(t *testing.T) {
	var l []api.Item
	for i := range api.MaxUnits / 4 {
		l = append(l, from(text("a"), by(1, i+1)), note(i+1, to(text("a"), 1, i+1)), text("b"))
	}
	d := doc(l...)
	if got := move.List(d); len(got) != api.MaxUnits/4 || len(move.Problems(d)) > 0 {
		t.Errorf("there are %d moves", len(got))
	}
	if got, found := move.Partner(d, pos(0, 3*99)); got != pos(100, 0) || !found {
		t.Errorf("Partner = %v, %v", got, found)
	}
	one := doc(from(text(strings.Repeat("a", 8000)), by(1, 1)), to(text(strings.Repeat("a", 8000)), 1, 1))
	if got, found := move.Partner(one, pos(0, 7999)); got != pos(0, 15999) || !found {
		t.Errorf("Partner = %v, %v", got, found)
	}
}
