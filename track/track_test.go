package track_test

import (
	"math"
	"math/rand/v2"
	"slices"
	"strings"
	"testing"

	"obelus/api"
	"obelus/document"
	"obelus/edit"
	"obelus/resolve"
	"obelus/samples"
	"obelus/track"
)

const bold = api.KeyBold

// abcd is the document of the chapter's first example, in which Ann has deleted the b.
func abcd() api.Document { return doc(text("a"), del(text("b"), by(1)), text("cd")) }

// hidden is a document whose elements are hidden in many ways.
func hidden() api.Document {
	struck := row(cell(3))
	struck.Head.Marks.Dels = []api.Del{by(2)}
	gone := cell(4)
	gone.Head.Marks.Dels = []api.Del{by(1)}
	return doc(
		del(text("x"), by(1)), text("ab"), del(text("\u00e9\U0001F600"), by(1), by(2)), ins(text("c"), 1, 0), table(1, row(cell(2, text("d"), del(para(), by(5)))), struck),
		table(5, row(gone)), del(note(6, text("n")), by(2)), note(7, del(text("yz"), by(1)), text("n")), para(), del(section(), by(1)),
	)
}

func TestP1AllArguments(t *testing.T) {
	r := rand.New(rand.NewPCG(25, 1))
	wild := []api.Document{{}, {Flow: flow(text("\xFF"), para())}, {Flow: flow(text(""), table(1), table(1, row()), note(1, table(1, row(cell(1)), row())))}, {Flow: flow(table(1, row(), row(cell(2)), row(cell(1))), note(0, text("a")))}, {Flow: flow(api.Item{Kind: 99, Flow: flow(text("a"))}), End: api.Head{Props: []api.Prop{prop(9, 9), prop(-1, 0)}}}}
	for range 300 {
		wild = append(wild, samples.Wrong(r.IntN), samples.Wrong(func(n int) int { return min(r.IntN(n), r.IntN(n)) }), samples.Document(r.IntN))
	}
	numbers := append(samples.Numbers(), 4002, 8003)
	number := func() int { return numbers[r.IntN(len(numbers))] }
	reached := 0
	for i, d := range wild {
		if r.IntN(2) == 0 {
			d.Revs = []api.Rev{{Id: number()}, {Id: number(), Author: "\xFF"}, {Id: 2, Author: "Bob", Time: 3}}
		}
		for range 40 {
			e, rev := samples.Edit(r.IntN, resolve.Final(d)), someRev(r)
			if r.IntN(4) == 0 {
				e = samples.Edit(r.IntN, d)
			}
			if r.IntN(8) == 0 {
				e.Items, e.Rows, e.At, e.Count, rev.Id = d.Flow, []api.Row{{}, row(cell(0, d.Flow...))}, number(), number(), number()
			}
			got, err := track.Track(d, e, rev)
			if f := track.Check(d, e, rev); err != f || err != api.OK && !isEmpty(got) {
				t.Fatalf("%d: Track(%+v, %+v) = %+v, %d; Check = %d", i, d, e, got, err, f)
			}
			if err == api.OK {
				reached++
			}
			if got, at, err := track.Run(d, []track.Change{{Edit: e, Rev: rev}}); err != api.OK && (at != 0 || !isEmpty(got)) {
				t.Fatalf("%d: Run = %+v, %d, %d", i, got, at, err)
			}
			p := pos(number(), number())
			if got, err := track.Locate(d, p); err != api.OK && got != (api.Pos{}) {
				t.Fatalf("%d: Locate = %v, %d", i, got, err)
			}
			if got, err := track.View(d, p); err != api.OK && got != (api.Pos{}) {
				t.Fatalf("%d: View = %v, %d", i, got, err)
			}
			if got, err := track.Ranges(d, span(number(), number(), number())); err != api.OK && len(got) > 0 {
				t.Fatalf("%d: Ranges = %v, %d", i, got, err)
			}
			track.Move(d, number())
		}
	}
	if reached < 500 {
		t.Errorf("%d edits were tracked", reached)
	}
	// flows with the same id, of which the first one is not visible
	twice := api.Document{Flow: flow(del(note(5, table(7, row(cell(8))), text("c")), by(1)), note(5, text("ab")))}
	for kind := range 15 {
		track.Check(twice, api.Edit{Kind: kind, Flow: 5, Count: 1, Fresh: 20 * (kind / api.EditMove % 2)}, ann())
	}
}

// TestP1Deep nests flows as deeply as the document permits.
func TestP1Deep(t *testing.T) {
	deep := 1 << 16
	tables, notes := samples.Deep(deep)
	for i, l := range [][]api.Item{tables, notes} {
		d, inner := doc(l...), 4
		want := []api.Errno{api.ErrDepth, api.ErrFlow}[i]
		if e := track.Check(api.Document{}, api.Edit{Kind: api.EditInsert, Items: l}, ann()); e != want {
			t.Errorf("%d: insert = %d", i, e)
		}
		if e := track.Check(d, api.Edit{Kind: api.EditDelete, Flow: inner, Count: 1}, ann()); e != want {
			t.Errorf("%d: delete = %d", i, e)
		}
		if e := track.Check(d, api.Edit{Kind: api.EditMove, At: 1, Count: 1, ToAt: 0, Fresh: 1 << 20}, ann()); e != want {
			t.Errorf("%d: move = %d", i, e)
		}
		if got, e := track.Locate(d, pos(inner, 1)); got != pos(inner, 1) || e != api.OK {
			t.Errorf("%d: Locate = %v, %d", i, got, e)
		}
		if got := track.Move(d, 1); got != 1 {
			t.Errorf("%d: Move = %d", i, got)
		}
	}
}

func TestP25_1LocateAndView(t *testing.T) {
	for i, c := range []struct {
		d              api.Document
		flow           int
		located, views []int
	}{
		{abcd(), 0, []int{0, 1, 3, 4}, []int{0, 1, 1, 2, 3}},
		{doc(), 0, []int{0}, []int{0}},
		{doc(del(text("ab"), by(1))), 0, []int{0}, []int{0, 0, 0}},
		{doc(del(text("ab"), by(1)), text("c")), 0, []int{0, 3}, []int{0, 0, 0, 1}},
		{doc(ins(text("ab"), 1, 0), del(ins(text("c"), 1, 0), by(2)), comment(1)), 0, []int{0, 1, 2, 4}, []int{0, 1, 2, 2, 3}},
		{hidden(), 0, []int{0, 2, 3, 6, 7, 10, 11}, []int{0, 0, 1, 2, 2, 2, 3, 4, 4, 4, 5, 6, 6}}, {hidden(), 2, []int{0, 1}, []int{0, 1, 1}}, {hidden(), 7, []int{0, 3}, []int{0, 0, 0, 1}},
	} {
		for at, want := range c.located {
			if got, e := track.Locate(c.d, pos(c.flow, at)); got != pos(c.flow, want) || e != api.OK {
				t.Errorf("%d: Locate(%d) = %v, %d; want %d", i, at, got, e, want)
			}
		}
		for at, want := range c.views {
			if got, e := track.View(c.d, pos(c.flow, at)); got != pos(c.flow, want) || e != api.OK {
				t.Errorf("%d: View(%d) = %v, %d; want %d", i, at, got, e, want)
			}
		}
		for _, p := range []api.Pos{pos(c.flow, -1), pos(c.flow, len(c.located)), pos(c.flow, math.MaxInt), pos(c.flow, math.MinInt)} {
			if got, e := track.Locate(c.d, p); got != (api.Pos{}) || e != api.ErrRange {
				t.Errorf("%d: Locate(%v) = %v, %d", i, p, got, e)
			}
		}
		for _, p := range []api.Pos{pos(c.flow, -1), pos(c.flow, len(c.views)), pos(c.flow, math.MaxInt), pos(c.flow, math.MinInt)} {
			if got, e := track.View(c.d, p); got != (api.Pos{}) || e != api.ErrRange {
				t.Errorf("%d: View(%v) = %v, %d", i, p, got, e)
			}
		}
	}
	for _, id := range []int{1, 3, 4, 5, 6, 8, -1, math.MaxInt} { // tables, hidden flows and others
		for _, at := range []int{0, -1, 99} {
			got, e := track.Locate(hidden(), pos(id, at))
			back, f := track.View(hidden(), pos(id, at))
			if got != (api.Pos{}) || e != api.ErrNotFound || back != (api.Pos{}) || f != api.ErrNotFound {
				t.Errorf("Locate(%d, %d) = %v, %d, View = %v, %d", id, at, got, e, back, f)
			}
		}
	}
}

func TestP25_2Ranges(t *testing.T) {
	for i, c := range []struct {
		d    api.Document
		r    api.Range
		want []api.Range
		e    api.Errno
	}{
		{abcd(), span(0, 0, 3), []api.Range{span(0, 0, 1), span(0, 2, 4)}, api.OK}, {abcd(), span(0, 0, 1), []api.Range{span(0, 0, 1)}, api.OK}, {abcd(), span(0, 1, 3), []api.Range{span(0, 2, 4)}, api.OK}, {abcd(), span(0, 1, 2), []api.Range{span(0, 2, 3)}, api.OK}, {abcd(), span(0, 1, 1), nil, api.OK}, {abcd(), span(0, 3, 3), nil, api.OK}, {abcd(), span(0, 0, 0), nil, api.OK},
		{hidden(), span(0, 0, 6), []api.Range{span(0, 1, 3), span(0, 5, 7), span(0, 9, 11)}, api.OK}, {hidden(), span(0, 1, 5), []api.Range{span(0, 2, 3), span(0, 5, 7), span(0, 9, 10)}, api.OK}, {hidden(), span(7, 0, 1), []api.Range{span(7, 2, 3)}, api.OK}, {doc(text("a"), ins(text("b"), 1, 0), para()), span(0, 0, 3), []api.Range{span(0, 0, 3)}, api.OK},
		{abcd(), span(0, -1, 1), nil, api.ErrRange}, {abcd(), span(0, 2, 1), nil, api.ErrRange}, {abcd(), span(0, 0, 4), nil, api.ErrRange}, {abcd(), span(0, 4, 4), nil, api.ErrRange}, {abcd(), span(0, math.MinInt, math.MaxInt), nil, api.ErrRange}, {abcd(), span(0, math.MaxInt, math.MaxInt), nil, api.ErrRange},
		{hidden(), span(6, 0, 0), nil, api.ErrNotFound}, {hidden(), span(6, 2, 1), nil, api.ErrNotFound}, {hidden(), span(1, 0, 0), nil, api.ErrNotFound}, {hidden(), span(4, -1, 0), nil, api.ErrNotFound}, {hidden(), span(99, 0, 0), nil, api.ErrNotFound},
	} {
		if got, e := track.Ranges(c.d, c.r); show(got) != show(c.want) || e != c.e {
			t.Errorf("%d: Ranges = %v, %d; want %v, %d", i, got, e, c.want, c.e)
		}
	}
}

// TestP25_1Many compares positions and ranges with those that are found unit by unit.
func TestP25_1Many(t *testing.T) {
	differ, holes := 0, 0
	many(3000, 2, func(r *rand.Rand, d api.Document, _ api.Edit, _ api.Rev) {
		final := resolve.Final(d)
		for _, id := range append(document.Flows(d), 9999) {
			_, visible := flowOf(d, id)
			_, shown := document.Flow(final, id)
			for at := -1; at <= len(visible)+1; at++ {
				want, e := pos(id, 0), api.OK
				switch {
				case !shown:
					want, e = api.Pos{}, api.ErrNotFound
				case at < 0 || at > len(visible):
					want, e = api.Pos{}, api.ErrRange
				default:
					want.At = naiveCount(visible[:at])
				}
				if got, f := track.View(d, pos(id, at)); got != want || f != e {
					t.Fatalf("View(%+v, %d, %d) = %v, %d; want %v, %d", d, id, at, got, f, want, e)
				}
				want = pos(id, 0)
				if e == api.OK && at > naiveCount(visible) {
					e = api.ErrRange
				}
				if e != api.OK {
					want = api.Pos{}
				} else {
					want.At = naivePlace(visible, at)
				}
				if got, f := track.Locate(d, pos(id, at)); got != want || f != e {
					t.Fatalf("Locate(%+v, %d, %d) = %v, %d; want %v, %d", d, id, at, got, f, want, e)
				}
				if e != api.OK {
					continue
				}
				if back, _ := track.View(d, want); back != pos(id, at) {
					t.Fatalf("View leads back from %v to %v", want, back)
				}
				if want.At != at {
					differ++
				}
				to := at + r.IntN(naiveCount(visible)+1-at)
				l, f := track.Ranges(d, span(id, at, to))
				var units []int
				for i, one := range l {
					if one.Flow != id || one.From >= one.To || i > 0 && l[i-1].To >= one.From {
						t.Fatalf("Ranges = %v", l)
					}
					for unit := one.From; unit < one.To; unit++ {
						units = append(units, unit)
					}
				}
				var chosen []int
				for k := at; k < to; k++ {
					chosen = append(chosen, naiveNth(visible, k))
				}
				if !slices.Equal(units, chosen) || f != api.OK {
					t.Fatalf("Ranges(%+v, %d to %d of %d) = %v, %d; want %v", d, at, to, id, l, f, chosen)
				}
				if len(l) > 1 {
					holes++
				}
			}
		}
	})
	if differ < 1000 || holes < 300 {
		t.Errorf("%d places differ, %d ranges have holes", differ, holes)
	}
}

func TestP25_2Move(t *testing.T) {
	in := row(cell(3))
	in.Head.Marks = api.Marks{Ins: 1, Move: 6}
	in.Cells[0].Head.Marks.Dels = []api.Del{{Rev: 1, Move: 7}, {Rev: 2, Move: 4}}
	in.Cells[0].Flow = flow(ins(para(), 2, 5), note(4, del(text("a"), api.Del{Rev: 5, Move: 8})))
	for i, c := range []struct {
		l    []api.Item
		want [4]int // of the revisions 1, 2, 5 and 9
	}{
		{nil, [4]int{1, 1, 1, 1}}, {flow(ins(text("a"), 1, 0), del(text("b"), by(2))), [4]int{1, 1, 1, 1}}, {flow(ins(text("a"), 1, 3), del(text("b"), api.Del{Rev: 2, Move: 1})), [4]int{4, 2, 1, 1}}, {flow(del(ins(text("a"), 1, 3), api.Del{Rev: 1, Move: 5}, api.Del{Rev: 2, Move: 9}), ins(text("b"), 1, 2)), [4]int{6, 10, 1, 1}}, {flow(text("a"), table(2, in)), [4]int{8, 6, 9, 1}},
		{flow(ins(para(), 1, api.MaxId)), [4]int{api.MaxId + 1, 1, 1, 1}},
	} {
		for j, rev := range []int{1, 2, 5, 9} {
			if got := track.Move(doc(c.l...), rev); got != c.want[j] {
				t.Errorf("%d: Move(%d) = %d; want %d", i, rev, got, c.want[j])
			}
		}
	}
	greater := 0
	many(2000, 4, func(_ *rand.Rand, d api.Document, _ api.Edit, rev api.Rev) {
		got, want := track.Move(d, rev.Id), naiveNext(d, rev.Id)
		if got != want || track.Move(d, 77) != 1 || track.Move(d, 0) != 1 {
			t.Fatalf("Move(%+v, %d) = %d; want %d", d, rev.Id, got, want)
		}
		if got > 1 {
			greater++
		}
	})
	if greater < 300 {
		t.Errorf("%d revisions have moved something", greater)
	}
}

// TestP25_3Many compares tracked edits of all kinds with those that the chapter's words give unit by unit.
func TestP25_3Many(t *testing.T) {
	possible, errors := make(map[int]int), make(map[int]int)
	many(16000, 3, func(_ *rand.Rand, d api.Document, e api.Edit, rev api.Rev) {
		want, failure := naiveTrack(d, e, rev)
		got, err := track.Track(d, e, rev)
		if show(got) != show(want) || err != failure {
			t.Fatalf("Track(%+v, %+v, %v) = %+v, %d; want %+v, %d", d, e, rev, got, err, want, failure)
		}
		if f := track.Check(d, e, rev); f != failure {
			t.Fatalf("Check(%+v, %+v, %v) = %d; want %d", d, e, rev, f, failure)
		}
		errors[int(err)]++
		if err == api.OK {
			possible[e.Kind]++
		}
	})
	for kind := 1; kind <= 14; kind++ {
		if possible[kind] < 20 {
			t.Errorf("%d edits of the kind %d were tracked", possible[kind], kind)
		}
	}
	for _, e := range []api.Errno{api.ErrRevision, api.ErrRange, api.ErrMark, api.ErrId, api.ErrMove, api.ErrStyle} {
		if errors[int(e)] < 20 {
			t.Errorf("the errors are %v", errors)
		}
	}
}

// shaded returns a cell with a colour, and lined one that has been changed by Ann.
func shaded(c api.Cell, value int) api.Cell {
	c.Head.Props = []api.Prop{prop(api.KeyShade, value)}
	return c
}
func marked(c api.Cell, m api.Marks) api.Cell { c.Head.Marks = m; return c }
func aRow(m api.Marks, l ...api.Cell) api.Row { return api.Row{Head: api.Head{Marks: m}, Cells: l} }

// TestP25_3Flows tracks edits of flows by Ann, of whom some documents know already, and compares all of the results.
func TestP25_3Flows(t *testing.T) {
	moved, gone := api.Del{Rev: 1, Move: 1}, by(1)
	boldness := func(item api.Item, before int) api.Item { return layered(item, 1, prop(bold, 1), before) }
	unset := func(s string, rev int) api.Item {
		item := text(s, prop(bold, 1))
		item.Head.Marks.Layers = []api.Layer{{Rev: rev, Key: bold}}
		return item
	}
	broken := para(prop(bold, 1))
	broken.Head.Marks.Layers = []api.Layer{{Rev: 1, Key: bold}}
	nested := table(10, row(cell(11, text("x"), del(text("y"), by(2)))), aRow(api.Marks{Dels: []api.Del{by(2)}}, cell(12)))
	set := api.Edit{Kind: api.EditFormat, Key: bold, Value: 1}
	format := func(at, count int) api.Edit { e := set; e.At, e.Count = at, count; return e }
	insert := func(at int, l ...api.Item) api.Edit { return api.Edit{Kind: api.EditInsert, At: at, Items: l} }
	remove := func(at, count int) api.Edit { return api.Edit{Kind: api.EditDelete, At: at, Count: count} }
	move := func(at, count, to int) api.Edit {
		return api.Edit{Kind: api.EditMove, At: at, Count: count, ToAt: to, Fresh: 20}
	}
	for i, c := range []struct {
		l    []api.Item
		e    api.Edit
		want []api.Item
	}{
		// insert
		{flow(text("ab")), insert(1, text("x")), flow(text("a"), ins(text("x"), 1, 0), text("b"))}, {flow(text("a"), del(text("b"), by(2)), text("c")), insert(1, text("x")), flow(text("a"), ins(text("x"), 1, 0), del(text("b"), by(2)), text("c"))}, {flow(del(text("b"), by(2)), text("c")), insert(0, text("x")), flow(ins(text("x"), 1, 0), del(text("b"), by(2)), text("c"))}, {flow(text("c"), del(text("b"), by(2))), insert(1, text("x")), flow(text("c"), ins(text("x"), 1, 0), del(text("b"), by(2)))},
		{flow(ins(text("ab"), 1, 0)), insert(1, text("x"), text("y")), flow(ins(text("axyb"), 1, 0))}, {flow(ins(text("ab"), 2, 0)), insert(2, text("x")), flow(ins(text("ab"), 2, 0), ins(text("x"), 1, 0))}, {nil, insert(0, note(5, text("n"), para()), nested.Rows[0].Cells[0].Flow[0]), flow(ins(note(5, text("n"), para()), 1, 0), ins(text("x"), 1, 0))},
		// delete
		{flow(text("abcd")), remove(1, 2), flow(text("a"), del(text("bc"), gone), text("d"))}, {flow(text("a"), ins(text("b"), 1, 0), ins(text("c"), 2, 0), text("d")), remove(0, 4), flow(del(text("a"), gone), del(ins(text("c"), 2, 0), gone), del(text("d"), gone))}, {flow(text("ab"), comment(1), para()), remove(1, 3), flow(text("a"), del(text("b"), gone), comment(1), del(para(), gone))}, {flow(text("a"), del(text("b"), by(2)), text("c")), remove(0, 2), flow(del(text("a"), gone), del(text("b"), by(2)), del(text("c"), gone))},
		{flow(ins(note(5, ins(text("n"), 2, 0)), 1, 0)), remove(0, 1), nil}, {flow(ins(comment(1), 1, 0), text("a")), remove(0, 1), flow(ins(comment(1), 1, 0), text("a"))}, {flow(text("a"), nested), remove(1, 1), flow(text("a"), del(nested, gone))}, {flow(text("a"), ins(nested, 1, 0), text("b")), remove(1, 1), flow(text("ab"))}, {flow(layered(text("ab"), 2, prop(bold, 1), 0)), remove(0, 1), flow(del(layered(text("a"), 2, prop(bold, 1), 0), gone), layered(text("b"), 2, prop(bold, 1), 0))},
		// format
		{flow(text("abc", prop(bold, 0))), format(1, 1), flow(text("a", prop(bold, 0)), boldness(text("b"), 0), text("c", prop(bold, 0)))}, {flow(text("abc")), format(1, 2), flow(text("a"), unset("bc", 1))}, {flow(unset("ab", 2)), format(0, 2), flow(unset("ab", 2))}, {flow(unset("ab", 1)), api.Edit{Kind: api.EditFormat, Count: 1, Key: bold, Clear: true}, flow(text("a"), unset("b", 1))}, {flow(ins(text("ab"), 1, 0)), format(0, 1), flow(ins(text("a", prop(bold, 1)), 1, 0), ins(text("b"), 1, 0))},
		{flow(text("a"), del(text("b"), by(2)), para(), comment(1)), format(0, 3), flow(unset("a", 1), del(text("b"), by(2)), broken, comment(1))}, {flow(comment(1), section(), nested), format(0, 3), flow(comment(1), section(), nested)},
		// move
		{flow(text("abcd")), move(2, 2, 0), flow(ins(text("cd"), 1, 1), text("ab"), del(text("cd"), moved))}, {flow(text("abcd")), move(0, 2, 3), flow(del(text("ab"), moved), text("c"), ins(text("ab"), 1, 1), text("d"))}, {flow(ins(text("ab"), 1, 0), text("c"), ins(text("d"), 2, 0)), move(0, 3, 4), flow(del(text("c"), moved), ins(text("d"), 2, 0), ins(text("ab"), 1, 0), ins(text("c"), 1, 1))}, {flow(text("a"), ins(text("b"), 1, 0), text("c")), move(1, 2, 0), flow(ins(text("b"), 1, 0), ins(text("c"), 1, 1), text("a"), del(text("c"), moved))},
		{flow(text("a"), comment(1), text("b"), del(text("c"), by(2)), para()), move(0, 3, 4), flow(del(text("a"), moved), comment(1), del(text("b"), moved), del(text("c"), by(2)), para(), ins(text("ab"), 1, 1))}, {flow(ins(text("ab"), 2, 4), text("c")), move(0, 1, 3), flow(del(ins(text("a"), 2, 4), moved), ins(text("b"), 2, 4), text("c"), ins(text("a"), 1, 1))}, {flow(unset("a", 2), text("b"), del(text("c"), by(2))), move(0, 1, 2), flow(del(unset("a", 2), moved), text("b"), ins(text("a", prop(bold, 1)), 1, 1), del(text("c"), by(2)))},
		{flow(text("a"), nested), move(1, 1, 0), flow(ins(table(20, row(cell(21, text("x")))), 1, 1), text("a"), del(nested, moved))}, {flow(text("a"), ins(nested, 1, 0), note(13, text("n"), ins(text("m"), 2, 0))), move(1, 2, 0), flow(ins(table(20, row(cell(21, text("x")))), 1, 0), ins(note(22, text("nm")), 1, 1), text("a"), del(note(13, text("n"), ins(text("m"), 2, 0)), moved))},
		{flow(text("ab"), nested), api.Edit{Kind: api.EditMove, At: 1, Count: 1, To: 11, ToAt: 1, Fresh: 20}, flow(text("a"), del(text("b"), moved), table(10, row(cell(11, text("x"), ins(text("b"), 1, 1), del(text("y"), by(2)))), nested.Rows[1]))}, {flow(ins(text("a"), 1, 7), del(text("b"), api.Del{Rev: 1, Move: 3}), text("cd")), move(1, 1, 3), flow(ins(text("a"), 1, 7), del(text("b"), api.Del{Rev: 1, Move: 3}), del(text("c"), api.Del{Rev: 1, Move: 8}), text("d"), ins(text("c"), 1, 8))},
		{flow(text("ab"), nested), api.Edit{Kind: api.EditMove, Flow: 11, Count: 1, ToAt: 1, Fresh: 20}, flow(text("a"), ins(text("x"), 1, 1), text("b"), table(10, row(cell(11, del(text("x"), moved), del(text("y"), by(2)))), nested.Rows[1]))},
		// anchors
		{abcd().Flow, api.Edit{Kind: api.EditPutAnchor, At: 1, Items: flow(comment(4))}, flow(text("a"), comment(4), del(text("b"), by(1)), text("cd"))}, {flow(del(comment(1), by(2)), text("a"), ins(comment(2), 2, 0), comment(3)), api.Edit{Kind: api.EditDropAnchor, At: 1}, flow(del(comment(1), by(2)), text("a"), comment(3))},
	} {
		got, e := track.Track(doc(c.l...), c.e, ann())
		if want := doc(c.want...); show(got) != show(want) || e != api.OK {
			t.Errorf("%d: Track = %+v, %d; want %+v", i, got, e, want)
		}
	}
}

func TestP25_3Tables(t *testing.T) {
	struck, new := api.Marks{Dels: []api.Del{by(2)}}, api.Marks{Ins: 1}
	gone := api.Marks{Dels: []api.Del{by(1)}}
	rows := []api.Row{aRow(struck, cell(2)), row(cell(3), marked(cell(4), struck), cell(5)), row(marked(cell(6), struck)), aRow(new, cell(7)), row(cell(8))}
	inner := func(change func(l []api.Row) []api.Row) []api.Item {
		return flow(table(1, change(document.Clone(api.Document{Flow: flow(table(1, rows...))}).Flow[0].Rows)...), para())
	}
	header := func(r api.Row, rev int) api.Row {
		r.Head.Props = []api.Prop{prop(api.KeyHeader, 1)}
		if rev > 0 {
			r.Head.Marks.Layers = []api.Layer{{Rev: rev, Key: api.KeyHeader}}
		}
		return r
	}
	changed := shaded(cell(5), 7)
	changed.Head.Marks.Layers = []api.Layer{{Rev: 1, Key: api.KeyShade}}
	for i, c := range []struct {
		e      api.Edit
		change func(l []api.Row) []api.Row
	}{
		{api.Edit{Kind: api.EditInsertRows, Rows: []api.Row{row(cell(20, text("a")))}}, func(l []api.Row) []api.Row { return join([]api.Row{aRow(new, cell(20, text("a")))}, l) }}, {api.Edit{Kind: api.EditInsertRows, At: 1, Rows: []api.Row{row(cell(20)), row(cell(21))}}, func(l []api.Row) []api.Row {
			return join(l[:2], []api.Row{aRow(new, cell(20)), aRow(new, cell(21))}, l[2:])
		}}, {api.Edit{Kind: api.EditInsertRows, At: 3, Rows: []api.Row{row(cell(20))}}, func(l []api.Row) []api.Row { return append(l, aRow(new, cell(20))) }},
		{api.Edit{Kind: api.EditDeleteRows, Count: 2}, func(l []api.Row) []api.Row { l[1].Head.Marks = gone; return slices.Delete(l, 3, 4) }}, {api.Edit{Kind: api.EditDeleteRows, At: 1, Count: 2}, func(l []api.Row) []api.Row { l[4].Head.Marks = gone; return slices.Delete(l, 3, 4) }},
		{api.Edit{Kind: api.EditInsertCells, Sub: 1, Cells: []api.Cell{cell(20), cell(21)}}, func(l []api.Row) []api.Row {
			l[1].Cells = slices.Insert(l[1].Cells, 1, marked(cell(20), new), marked(cell(21), new))
			return l
		}}, {api.Edit{Kind: api.EditInsertCells, Cells: []api.Cell{cell(20)}}, func(l []api.Row) []api.Row {
			l[1].Cells = slices.Insert(l[1].Cells, 0, marked(cell(20), new))
			return l
		}}, {api.Edit{Kind: api.EditInsertCells, At: 1, Sub: 1, Cells: []api.Cell{cell(20)}}, func(l []api.Row) []api.Row { l[3].Cells = append(l[3].Cells, marked(cell(20), new)); return l }},
		{api.Edit{Kind: api.EditDeleteCells, Sub: 1, Count: 1}, func(l []api.Row) []api.Row { l[1].Cells[2].Head.Marks = gone; return l }}, {api.Edit{Kind: api.EditDeleteCells, Count: 2}, func(l []api.Row) []api.Row { l[1].Cells[0].Head.Marks, l[1].Cells[2].Head.Marks = gone, gone; return l }}, {api.Edit{Kind: api.EditDeleteCells, At: 1, Count: 1}, func(l []api.Row) []api.Row { l[3].Cells[0].Head.Marks = gone; return l }},
		{api.Edit{Kind: api.EditFormatRow, Key: api.KeyHeader, Value: 1}, func(l []api.Row) []api.Row { l[1] = header(l[1], 1); return l }}, {api.Edit{Kind: api.EditFormatRow, At: 1, Key: api.KeyHeader, Value: 1}, func(l []api.Row) []api.Row { l[3] = header(l[3], 0); return l }},
		{api.Edit{Kind: api.EditFormatCell, Sub: 1, Key: api.KeyShade, Value: 7}, func(l []api.Row) []api.Row { l[1].Cells[2] = changed; return l }}, {api.Edit{Kind: api.EditFormatCell, Sub: 1, Key: api.KeyShade, Clear: true}, func(l []api.Row) []api.Row { return l }},
	} {
		c.e.Flow = 1
		got, e := track.Track(doc(inner(func(l []api.Row) []api.Row { return l })...), c.e, ann())
		if want := doc(inner(c.change)...); show(got) != show(want) || e != api.OK {
			t.Errorf("%d: Track = %+v, %d; want %+v", i, got, e, want)
		}
	}
	// rows and tables of which nothing is left
	alone := doc(text("a"), table(1, row(marked(cell(2), new), marked(cell(3), new)), aRow(new, cell(4))), text("b"))
	for i, l := range [][]api.Edit{{{Kind: api.EditDeleteCells, Flow: 1, Count: 2}, {Kind: api.EditDeleteRows, Flow: 1, Count: 1}}, {{Kind: api.EditDeleteRows, Flow: 1, At: 1, Count: 1}, {Kind: api.EditDeleteCells, Flow: 1, Count: 2}}} {
		got, at, e := track.Run(alone, []track.Change{{Edit: l[0], Rev: ann()}, {Edit: l[1], Rev: ann()}})
		if show(got) != show(doc(text("ab"))) || at != 2 || e != api.OK {
			t.Errorf("%d: Run = %+v, %d, %d", i, got, at, e)
		}
	}
}

func TestP25_3EndAndSettings(t *testing.T) {
	d := abcd()
	d.End.Props = []api.Prop{prop(api.KeyTop, 3)}
	top := api.Edit{Kind: api.EditFormatEnd, Key: api.KeyTop, Value: 4}
	want := document.Clone(d)
	want.End = api.Head{Props: []api.Prop{prop(api.KeyTop, 4)}, Marks: api.Marks{Layers: []api.Layer{{Rev: 2, Key: api.KeyTop, Before: 3, Had: true}}}}
	want.Revs = []api.Rev{ann(), bob()}
	got, e := track.Track(d, top, bob())
	if show(got) != show(want) || e != api.OK {
		t.Errorf("format-end = %+v, %d; want %+v", got, e, want)
	}
	top.Value = 3
	if got, e := track.Track(want, top, bob()); show(got) != show(d) || e != api.OK {
		t.Errorf("format-end and back = %+v, %d", got, e)
	}
	e0 := api.Edit{Kind: api.EditSettings, Settings: api.Settings{Vars: []api.Var{{Name: "v", Value: "1"}}}}
	want = document.Clone(d)
	want.Settings = e0.Settings
	if got, e := track.Track(d, e0, bob()); show(got) != show(want) || e != api.OK {
		t.Errorf("settings = %+v, %d; want %+v", got, e, want)
	}
	// a list that only a hidden text needs, and one that only a layer needs
	d.Settings.Lists = []api.List{{Id: 3, Levels: []api.Level{{Format: api.Decimal, Start: 1, Template: "%1."}}}}
	for i, item := range []api.Item{del(para(prop(api.KeyList, 3)), by(1)), layered(para(), 1, prop(api.KeyList, 0), 3)} {
		d.Flow = flow(item)
		if e := track.Check(d, e0, bob()); e != api.ErrList {
			t.Errorf("%d: settings = %d", i, e)
		}
		if e := edit.Check(resolve.Final(d), e0); e != api.OK {
			t.Errorf("%d: the final view has the error %d", i, e)
		}
	}
}

// TestP25_3Revs checks where the revision stands in the table, and that it is there only if it has changed something.
func TestP25_3Revs(t *testing.T) {
	some := doc(ins(text("a"), 2, 0), del(text("b"), by(3)))
	insert := api.Edit{Kind: api.EditInsert, Items: flow(text("x"))}
	for _, c := range []struct {
		rev  api.Rev
		want []api.Rev
	}{{ann(), []api.Rev{ann(), bob(), dan()}}, {bob(), []api.Rev{bob(), dan()}}, {dan(), []api.Rev{bob(), dan()}}, {cyd(), []api.Rev{bob(), dan(), cyd()}}} {
		if got, e := track.Track(some, insert, c.rev); !slices.Equal(got.Revs, c.want) || e != api.OK {
			t.Errorf("the revisions are %v, %d; want %v", got.Revs, e, c.want)
		}
		for i, e := range []api.Edit{{Kind: api.EditPutAnchor, Items: flow(comment(1))}, {Kind: api.EditFormat, Count: 1, Key: bold, Clear: true}, {Kind: api.EditSettings}, {Kind: api.EditFormat, Count: 1, Key: api.KeyTop, Value: 1}} {
			if got, err := track.Track(some, e, c.rev); !slices.Equal(got.Revs, some.Revs) || err != api.OK {
				t.Errorf("%d: the revisions are %v, %d", i, got.Revs, err)
			}
		}
	}
	if got, e := track.Track(some, api.Edit{Kind: api.EditDelete, Count: 1}, bob()); !slices.Equal(got.Revs, []api.Rev{dan()}) || e != api.OK {
		t.Errorf("the revisions are %v, %d", got.Revs, e)
	}
}

func TestP25_3Errors(t *testing.T) {
	d := doc(text("ab"), del(note(7, text("n")), by(1)), table(8, row(cell(9)), aRow(api.Marks{Dels: []api.Del{by(1)}}, cell(10))), note(12))
	wrong, other := api.Rev{Id: 1, Author: ""}, api.Rev{Id: 1, Author: "Ann", Time: 6}
	insert := func(id int) api.Edit { return api.Edit{Kind: api.EditInsert, Items: flow(note(id))} }
	for i, c := range []struct {
		e    api.Edit
		r    api.Rev
		want api.Errno
	}{
		{insert(11), ann(), api.OK}, {insert(11), wrong, api.ErrEmpty}, {api.Edit{}, wrong, api.ErrEmpty}, {insert(11), api.Rev{Author: "a"}, api.ErrId}, {insert(11), api.Rev{Id: 9, Author: "\xFF"}, api.ErrUTF8}, {insert(11), api.Rev{Id: 9, Author: "a", Time: -1}, api.ErrTime}, {insert(11), api.Rev{Id: 9, Author: strings.Repeat("a", 41)}, api.ErrLong}, {api.Edit{}, api.Rev{Id: 1, Author: "Ann", Time: -1}, api.ErrTime},
		{insert(11), other, api.ErrRevision}, {insert(11), api.Rev{Id: 1, Author: "Anne", Time: 5}, api.ErrRevision}, {api.Edit{}, other, api.ErrRevision}, {insert(11), bob(), api.OK}, {insert(11), api.Rev{Id: 2, Author: "b", Time: 9}, api.OK},
		{api.Edit{}, ann(), api.ErrKind}, {api.Edit{Kind: api.EditInsert, To: 1}, ann(), api.ErrFormat}, {api.Edit{Kind: api.EditInsert, Flow: 7}, ann(), api.ErrNotFound}, {api.Edit{Kind: api.EditDelete, Flow: 10, Count: 1}, ann(), api.ErrNotFound}, {api.Edit{Kind: api.EditDelete, At: 2, Count: 3}, ann(), api.ErrRange}, {api.Edit{Kind: api.EditDelete, At: 2, Count: 2}, ann(), api.OK}, {api.Edit{Kind: api.EditDeleteRows, Flow: 8, Count: 2}, ann(), api.ErrRange}, {api.Edit{Kind: api.EditInsert, Items: flow(ins(text("a"), 1, 0))}, ann(), api.ErrMark},
		{insert(7), ann(), api.ErrId}, {insert(9), ann(), api.ErrId}, {insert(10), ann(), api.ErrId}, {api.Edit{Kind: api.EditInsertRows, Flow: 8, Rows: []api.Row{row(cell(7))}}, ann(), api.ErrId}, {api.Edit{Kind: api.EditInsertCells, Flow: 8, Cells: []api.Cell{cell(13), cell(10)}}, ann(), api.ErrId}, {api.Edit{Kind: api.EditInsertRows, Flow: 8, Rows: []api.Row{row(cell(13, note(10)))}}, ann(), api.ErrId},
		{api.Edit{Kind: api.EditMove, At: 2, Count: 2, Fresh: 6}, ann(), api.ErrId}, {api.Edit{Kind: api.EditMove, At: 2, Count: 2, Fresh: 4}, ann(), api.OK}, {api.Edit{Kind: api.EditMove, At: 2, Count: 2, Fresh: 5}, ann(), api.ErrId}, {api.Edit{Kind: api.EditMove, At: 3, Count: 1, Fresh: 6}, ann(), api.OK}, {api.Edit{Kind: api.EditMove, At: 3, Count: 1, Fresh: 7}, ann(), api.ErrId}, {api.Edit{Kind: api.EditMove, Count: 1, ToAt: 2, Fresh: 7}, ann(), api.OK}, {api.Edit{Kind: api.EditMove, At: 3, Count: 1, Fresh: 12}, ann(), api.ErrId}, {api.Edit{Kind: api.EditMove, At: 3, Count: 1, Fresh: 0}, ann(), api.ErrId},
	} {
		got, e := track.Track(d, c.e, c.r)
		if f := track.Check(d, c.e, c.r); e != c.want || f != c.want || e != api.OK && !isEmpty(got) {
			t.Errorf("%d: Track = %+v, %d, Check = %d; want %d", i, got, e, f, c.want)
		}
	}
}

// TestP25_3Limits reaches limits only with what is not visible.
func TestP25_3Limits(t *testing.T) {
	struck := api.Marks{Dels: []api.Del{by(1)}}
	var rows []api.Row
	for i := range api.MaxRows {
		rows = append(rows, row(cell(i+10)))
	}
	rows[4].Head.Marks = struck
	cells := []api.Cell{}
	for i := range api.MaxColumns {
		cells = append(cells, cell(i+300))
	}
	cells[4].Head.Marks = struck
	tables := doc(table(1, rows...), table(2, row(cells...)))
	full := doc(del(text(strings.Repeat("a", api.MaxUnits-1)), by(1)), text("b"))
	many := api.Document{}
	for i := range api.MaxRevs {
		many.Revs = append(many.Revs, api.Rev{Id: 2*i + 1, Author: "a"})
		many.Flow = append(many.Flow, ins(text("a"), 2*i+1, 0))
	}
	layers := doc(text("ab", prop(bold, 1)))
	for i := range api.MaxLayers {
		layers.Flow[0].Head.Marks.Layers = append(layers.Flow[0].Head.Marks.Layers, api.Layer{Rev: 1 + i%2, Key: bold, Before: i % 2, Had: true})
	}
	layers.Revs = []api.Rev{ann(), bob()}
	last := doc(text("a"), ins(text("b"), 1, api.MaxId))
	x := flow(text("x"))
	known, fresh := api.Rev{Id: 1, Author: "a"}, api.Rev{Id: 2, Author: "a"}
	set := func(value int) api.Edit { return api.Edit{Kind: api.EditFormat, Count: 1, Key: bold, Value: value} }
	for i, c := range []struct {
		d    api.Document
		e    api.Edit
		r    api.Rev
		want api.Errno
	}{
		{tables, api.Edit{Kind: api.EditInsertRows, Flow: 1, Rows: []api.Row{row(cell(500))}}, ann(), api.ErrLimit}, {tables, api.Edit{Kind: api.EditDeleteRows, Flow: 1, Count: 1}, ann(), api.OK}, {tables, api.Edit{Kind: api.EditInsertCells, Flow: 2, Cells: []api.Cell{cell(500)}}, ann(), api.ErrLimit}, {tables, api.Edit{Kind: api.EditInsertCells, Flow: 1, Cells: []api.Cell{cell(500)}}, ann(), api.OK},
		{full, api.Edit{Kind: api.EditInsert, Items: x}, ann(), api.ErrLimit}, {full, api.Edit{Kind: api.EditPutAnchor, Items: flow(comment(1))}, ann(), api.ErrLimit}, {full, api.Edit{Kind: api.EditDelete, Count: 1}, ann(), api.OK}, {tables, api.Edit{Kind: api.EditInsert, Items: flow(text(strings.Repeat("a", api.MaxUnits-2)))}, ann(), api.OK},
		{many, api.Edit{Kind: api.EditInsert, Items: x}, fresh, api.ErrLimit}, {many, api.Edit{Kind: api.EditInsert, Items: x}, known, api.OK}, {many, api.Edit{Kind: api.EditPutAnchor, Items: flow(comment(1))}, fresh, api.OK}, {many, set(0), fresh, api.ErrLimit}, {many, set(0), known, api.OK}, {many, api.Edit{Kind: api.EditSettings}, fresh, api.OK}, {many, api.Edit{Kind: api.EditDelete, Count: 1}, known, api.OK}, {many, api.Edit{Kind: api.EditFormat, Count: 1, Key: bold, Clear: true}, fresh, api.OK},
		{layers, set(0), ann(), api.ErrLimit}, {layers, set(0), bob(), api.OK}, {layers, set(1), ann(), api.OK}, {layers, api.Edit{Kind: api.EditDelete, Count: 1}, ann(), api.OK},
		{last, api.Edit{Kind: api.EditMove, Count: 1, ToAt: 2, Fresh: 1}, ann(), api.ErrMark}, {last, api.Edit{Kind: api.EditMove, Count: 1, ToAt: 2, Fresh: 1}, bob(), api.OK},
	} {
		got, e := track.Track(c.d, c.e, c.r)
		if e != c.want || e != api.OK && !isEmpty(got) {
			t.Errorf("%d: Track = %d; want %d", i, e, c.want)
		}
		if f := track.Check(c.d, c.e, c.r); f != c.want {
			t.Errorf("%d: Check = %d; want %d", i, f, c.want)
		}
		if document.Check(c.d) != api.OK || !document.Equal(c.d, document.Normal(c.d)) {
			t.Fatalf("%d: the document is not valid or not in normal form", i)
		}
	}
}
