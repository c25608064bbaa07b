package mapping_test

import (
	"fmt"
	"math"
	"math/rand/v2"
	"slices"
	"testing"

	"obelus/api"
	"obelus/document"
	"obelus/mapping"
	"obelus/position"
	"obelus/samples"
	"obelus/splice"
)

var (
	text, para, note, table = samples.Text, samples.Para, samples.Note, samples.Table
	row, cell, flow, doc    = samples.Row, samples.Cell, samples.Flow, samples.Doc
)

func pos(flow, at int) api.Pos { return api.Pos{Flow: flow, At: at} }

// items returns the splice that replaces units of a flow.
func items(id, at int, old, new []api.Item) api.Splice {
	return api.Splice{Kind: api.SpliceItems, Id: id, At: at, Old: api.Piece{Items: old}, New: api.Piece{Items: new}}
}

// show returns a string that is equal for equal values, where nil and empty slices are equal.
func show(v any) string { return fmt.Sprintf("%+v", v) }

// many calls a function for many documents with splices that are possible, and the documents behind them.
func many(count int, seed uint64, f func(r *rand.Rand, d api.Document, s api.Splice, behind api.Document)) {
	r := rand.New(rand.NewPCG(19, seed))
	for range count {
		d := samples.Document(r.IntN)
		s := samples.Splice(r.IntN, d, samples.Revs())
		if behind, e := splice.Apply(d, s, samples.Revs()); e == api.OK {
			f(r, d, s, behind)
		}
	}
}

// inner is a flow with its id.
type inner struct {
	id int
	l  []api.Item
}

// flowsIn returns the flows in items, rows and cells.
func flowsIn(l []api.Item, rows []api.Row, cells []api.Cell) []inner {
	var all []inner
	for _, item := range l {
		if item.Kind == api.Note {
			all = append(all, inner{item.Id, item.Flow})
			all = append(all, flowsIn(item.Flow, nil, nil)...)
		}
		if item.Kind == api.Table {
			all = append(all, flowsIn(nil, item.Rows, nil)...)
		}
	}
	for _, r := range rows {
		cells = append(slices.Clone(cells), r.Cells...)
	}
	for _, c := range cells {
		all = append(all, inner{c.Id, c.Flow})
		all = append(all, flowsIn(c.Flow, nil, nil)...)
	}
	return all
}

// naiveOf returns the step of a splice by the rules of the chapter.
func naiveOf(d api.Document, s api.Splice) mapping.Step {
	x := mapping.Step{Flow: -1}
	table, _ := document.Place(d, s.Id)
	left, right := table, pos(table.Flow, table.At+1)
	if s.Kind == api.SpliceItems {
		o, n := len(samples.Units(s.Old.Items)), len(samples.Units(s.New.Items))
		x = mapping.Step{Flow: s.Id, At: s.At, Old: o, New: n}
		left, right = pos(s.Id, s.At), pos(s.Id, s.At+n)
	}
	behind := flowsIn(s.New.Items, s.New.Rows, s.New.Cells)
	for _, before := range flowsIn(s.Old.Items, s.Old.Rows, s.Old.Cells) {
		i := slices.IndexFunc(behind, func(f inner) bool { return f.id == before.id })
		if i < 0 {
			x.Gone = append(x.Gone, mapping.Gone{Flow: before.id, Left: left, Right: right})
		} else if show(before.l) != show(behind[i].l) {
			x.Kept = append(x.Kept, mapping.Kept{Flow: before.id, Len: len(samples.Units(behind[i].l))})
		}
	}
	return x
}

// naiveMap returns where a position is by the rules of the chapter.
func naiveMap(x mapping.Step, p api.Pos, side int) (api.Pos, bool) {
	for _, g := range x.Gone {
		if g.Flow == p.Flow && side == mapping.Left {
			return g.Left, false
		} else if g.Flow == p.Flow {
			return g.Right, false
		}
	}
	for _, k := range x.Kept {
		if k.Flow == p.Flow && p.At > k.Len {
			return pos(p.Flow, k.Len), false
		} else if k.Flow == p.Flow {
			return p, true
		}
	}
	f, k, moved := p.Flow, p.At, pos(p.Flow, p.At+x.New-x.Old)
	if f != x.Flow {
		return p, true
	}
	if side == mapping.Left {
		if k <= x.At {
			return p, true
		}
		if x.At < k && k <= x.At+x.Old {
			return pos(f, x.At), false
		}
		return moved, true
	}
	if k < x.At {
		return p, true
	}
	if x.At <= k && k < x.At+x.Old {
		return pos(f, x.At+x.New), false
	}
	return moved, true
}

// naiveUnit returns where a unit is by the rules of the chapter.
func naiveUnit(x mapping.Step, p api.Pos) (api.Pos, bool) {
	inGone := slices.ContainsFunc(x.Gone, func(g mapping.Gone) bool { return g.Flow == p.Flow })
	inKept := slices.ContainsFunc(x.Kept, func(k mapping.Kept) bool { return k.Flow == p.Flow })
	switch {
	case !inGone && !inKept && p.Flow != x.Flow:
		return p, true
	case !inGone && !inKept && p.At < x.At:
		return p, true
	case !inGone && !inKept && p.At >= x.At+x.Old:
		return pos(p.Flow, p.At+x.New-x.Old), true
	}
	return api.Pos{}, false
}

// naiveRange returns what remains of a range by the rules of the chapter.
func naiveRange(x mapping.Step, r api.Range) (api.Range, bool) {
	if slices.ContainsFunc(x.Gone, func(g mapping.Gone) bool { return g.Flow == r.Flow }) {
		return api.Range{}, false
	}
	from, _ := naiveMap(x, pos(r.Flow, r.From), mapping.Right)
	to, _ := naiveMap(x, pos(r.Flow, r.To), mapping.Left)
	if from.At > to.At {
		return api.Range{Flow: r.Flow, From: to.At, To: to.At}, true
	}
	return api.Range{Flow: r.Flow, From: from.At, To: to.At}, true
}

// positions returns all positions of a document.
func positions(d api.Document) []api.Pos {
	var all []api.Pos
	for i := range position.Count(d) {
		p, _ := position.Of(d, i)
		all = append(all, p)
	}
	return all
}

// apart reports whether the lists of two steps share no memory.
func apart(a, b mapping.Step) bool {
	a.Gone, b.Gone, a.Kept, b.Kept = a.Gone[:cap(a.Gone)], b.Gone[:cap(b.Gone)], a.Kept[:cap(a.Kept)], b.Kept[:cap(b.Kept)]
	for i := range a.Gone {
		for j := range b.Gone {
			if &a.Gone[i] == &b.Gone[j] {
				return false
			}
		}
	}
	for i := range a.Kept {
		for j := range b.Kept {
			if &a.Kept[i] == &b.Kept[j] {
				return false
			}
		}
	}
	return true
}

func TestP1AllArguments(t *testing.T) {
	r := rand.New(rand.NewPCG(19, 1))
	wild := []api.Document{{}, doc(text("\xFF"), para()), doc(note(0, note(0, para()))), doc(table(1), table(1, row()), note(1, table(2, row(cell(1)), row())))}
	for range 100 {
		wild = append(wild, samples.Wrong(r.IntN), samples.Document(r.IntN))
	}
	numbers := samples.Numbers()
	number := func() int { return numbers[r.IntN(len(numbers))] }
	for _, d := range wild {
		other := wild[r.IntN(len(wild))]
		for kind := -1; kind <= 8; kind++ {
			s := api.Splice{Kind: kind, Id: number(), At: number(), Sub: number(), Old: api.Piece{Items: d.Flow, Rows: []api.Row{{}, row(cell(0, other.Flow...))}, Cells: []api.Cell{cell(0, d.Flow...)}}, New: api.Piece{Items: other.Flow}}
			x := mapping.Of(d, s)
			if steps, e := mapping.Through(d, []api.Splice{samples.Splice(r.IntN, d, nil), s}, nil); e == api.OK || len(steps) > 0 {
				t.Fatalf("Through(%+v, %+v) = %+v, %d", d, s, steps, e)
			}
			for range 20 {
				p, side := pos(number(), number()), number()
				steps := []mapping.Step{x, {Flow: number(), At: number(), Old: number(), New: number()}, {Flow: -1, Gone: []mapping.Gone{{Flow: number()}}, Kept: []mapping.Kept{{Flow: number(), Len: number()}}}}
				for _, step := range steps {
					mapping.Map(step, p, side)
					mapping.Range(step, api.Range{Flow: p.Flow, From: p.At, To: number()})
					if q, ok := mapping.Unit(step, p); !ok && q != (api.Pos{}) {
						t.Fatalf("Unit(%+v, %+v) = %+v", step, p, q)
					}
				}
				mapping.MapAll(steps, p, side)
				mapping.Equal(x, steps[1])
			}
		}
	}
}

// TestP1Deep nests flows as deeply as the document permits.
func TestP1Deep(t *testing.T) {
	deep := 1 << 16
	tables, notes := samples.Deep(deep)
	for i, l := range [][]api.Item{tables, notes} {
		x := mapping.Of(doc(l...), items(0, 0, l, nil))
		if len(x.Gone) != deep || len(x.Kept) > 0 || x.Gone[deep-1].Flow != 2-i {
			t.Errorf("%d: %d flows are gone", i, len(x.Gone))
		}
		if x := mapping.Of(api.Document{}, items(0, 0, nil, l)); len(x.Gone)+len(x.Kept) > 0 || x.New != 3 {
			t.Errorf("%d: %+v", i, x)
		}
	}
	changed, _ := document.SetFlow(doc(tables...), 2, flow(para(), para())) // the innermost flow, which changes those around it
	if x := mapping.Of(doc(tables...), items(0, 0, tables, changed.Flow)); len(x.Gone) > 0 || len(x.Kept) != deep || x.Kept[deep-1] != (mapping.Kept{Flow: 2, Len: 2}) {
		t.Errorf("%d flows are changed", len(x.Kept))
	}
	if x := mapping.Of(doc(notes...), items(0, 0, notes, notes)); len(x.Gone)+len(x.Kept) > 0 {
		t.Errorf("%d flows are gone, %d are changed", len(x.Gone), len(x.Kept))
	}
}

func TestP19_1Examples(t *testing.T) {
	d := doc(text("abcd"), note(7, text("xy")), table(1, row(cell(2, text("x")), cell(3, note(4, text("y")))), row(cell(5, table(6, row(cell(8)))))))
	rows := d.Flow[2].Rows
	rowsAt := func(at int, old, new []api.Row) api.Splice {
		return api.Splice{Kind: api.SpliceRows, Id: 1, At: at, Old: api.Piece{Rows: old}, New: api.Piece{Rows: new}}
	}
	gone := func(flow int, left, right api.Pos) mapping.Gone {
		return mapping.Gone{Flow: flow, Left: left, Right: right}
	}
	before, after := pos(0, 5), pos(0, 6) // the table
	for i, c := range []struct {
		s    api.Splice
		want mapping.Step
	}{
		{items(0, 1, flow(text("bc")), flow(text("xyz"))), mapping.Step{Flow: 0, At: 1, Old: 2, New: 3}}, {items(0, 1, nil, flow(text("x"))), mapping.Step{Flow: 0, At: 1, New: 1}}, {items(7, 1, flow(text("y")), nil), mapping.Step{Flow: 7, At: 1, Old: 1}}, {items(0, 6, nil, nil), mapping.Step{At: 6}},
		{items(0, 4, d.Flow[1:2], nil), mapping.Step{At: 4, Old: 1, Gone: []mapping.Gone{gone(7, pos(0, 4), pos(0, 4))}}}, {items(0, 3, flow(text("d"), d.Flow[1]), flow(text("\u00e9x\u00e9"))), mapping.Step{At: 3, Old: 2, New: 3, Gone: []mapping.Gone{gone(7, pos(0, 3), pos(0, 6))}}},
		{items(0, 4, d.Flow[1:2], flow(text("x"), note(7, text("x\u00e9z")))), mapping.Step{At: 4, Old: 1, New: 2, Kept: []mapping.Kept{{Flow: 7, Len: 3}}}}, {items(0, 4, d.Flow[1:2], flow(note(7))), mapping.Step{At: 4, Old: 1, New: 1, Kept: []mapping.Kept{{Flow: 7}}}}, {items(0, 4, d.Flow[1:2], flow(note(7, text("xy")), para())), mapping.Step{At: 4, Old: 1, New: 2}},
		{items(0, 5, d.Flow[2:], flow(para())), mapping.Step{At: 5, Old: 1, New: 1, Gone: []mapping.Gone{gone(2, before, after), gone(3, before, after), gone(4, before, after), gone(5, before, after), gone(8, before, after)}}},
		{items(0, 4, d.Flow[1:], flow(note(8, text("z")), table(1, row(cell(5))))), mapping.Step{At: 4, Old: 2, New: 2, Gone: []mapping.Gone{gone(7, pos(0, 4), after), gone(2, pos(0, 4), after), gone(3, pos(0, 4), after), gone(4, pos(0, 4), after)}, Kept: []mapping.Kept{{Flow: 5}, {Flow: 8, Len: 1}}}},
		{rowsAt(0, rows[:1], nil), mapping.Step{Flow: -1, Gone: []mapping.Gone{gone(2, before, after), gone(3, before, after), gone(4, before, after)}}}, {rowsAt(0, rows[:1], []api.Row{row(cell(3)), row(cell(2, text("x")))}), mapping.Step{Flow: -1, Gone: []mapping.Gone{gone(4, before, after)}, Kept: []mapping.Kept{{Flow: 3}}}}, {rowsAt(2, nil, []api.Row{row(cell(20))}), mapping.Step{Flow: -1}},
		{api.Splice{Kind: api.SpliceCells, Id: 1, Sub: 1, Old: api.Piece{Cells: rows[0].Cells[1:]}, New: api.Piece{Cells: []api.Cell{cell(9, note(4, text("zz")))}}}, mapping.Step{Flow: -1, Gone: []mapping.Gone{gone(3, before, after)}, Kept: []mapping.Kept{{Flow: 4, Len: 2}}}},
		{api.Splice{Kind: api.SpliceCells, Id: 6, Old: api.Piece{Cells: []api.Cell{cell(8)}}, New: api.Piece{Cells: []api.Cell{cell(9)}}}, mapping.Step{Flow: -1, Gone: []mapping.Gone{gone(8, pos(5, 0), pos(5, 1))}}},
		{api.Splice{Kind: api.SpliceRow, Id: 1, At: 1, New: api.Piece{Head: api.Head{Props: []api.Prop{{Key: api.KeyHeader, Value: 1}}}}}, mapping.Step{Flow: -1}}, {api.Splice{Kind: api.SpliceCell, Id: 1, At: 1, New: api.Piece{Head: api.Head{Props: []api.Prop{{Key: api.KeyShade, Value: 1}}}}}, mapping.Step{Flow: -1}}, {api.Splice{Kind: api.SpliceEnd}, mapping.Step{Flow: -1}}, {api.Splice{Kind: api.SpliceSet}, mapping.Step{Flow: -1}},
	} {
		if _, e := splice.Apply(d, c.s, nil); e != api.OK {
			t.Errorf("%d: Apply = %d", i, e)
		}
		if got, naive := mapping.Of(d, c.s), naiveOf(d, c.s); show(got) != show(c.want) || show(naive) != show(c.want) {
			t.Errorf("%d: Of = %+v; want %+v or %+v", i, got, c.want, naive)
		}
	}
}

// TestP19_1Many compares the steps of splices with those that the rules give.
func TestP19_1Many(t *testing.T) {
	gone, kept := 0, 0
	many(8000, 2, func(_ *rand.Rand, d api.Document, s api.Splice, _ api.Document) {
		before := show(d) + show(s)
		x := mapping.Of(d, s)
		if want := naiveOf(d, s); show(x) != show(want) {
			t.Fatalf("Of(%+v, %+v) = %+v; want %+v", d, s, x, want)
		}
		if show(d)+show(s) != before {
			t.Fatalf("%s was changed to %s", before, show(d)+show(s))
		}
		gone += min(len(x.Gone), 1)
		kept += min(len(x.Kept), 1)
	})
	if gone < 100 || kept < 50 {
		t.Errorf("%d splices remove flows, %d change them", gone, kept)
	}
}

func TestP19_1Through(t *testing.T) {
	whole, failed := 0, 0
	many(1500, 3, func(r *rand.Rand, d api.Document, s api.Splice, behind api.Document) {
		l, want := []api.Splice{s}, []mapping.Step{mapping.Of(d, s)}
		for range 3 {
			s := samples.Splice(r.IntN, behind, samples.Revs())
			l, want = append(l, s), append(want, mapping.Of(behind, s))
			next, e := splice.Apply(behind, s, samples.Revs())
			if e != api.OK {
				want = nil
				break
			}
			behind = next
		}
		_, _, wanted := splice.Run(d, l, samples.Revs())
		before := show(d) + show(l)
		got, e := mapping.Through(d, l, samples.Revs())
		if e != wanted || show(got) != show(want) {
			t.Fatalf("Through(%+v, %+v) = %+v, %d; want %+v, %d", d, l, got, e, want, wanted)
		}
		if show(d)+show(l) != before {
			t.Fatalf("%s was changed to %s", before, show(d)+show(l))
		}
		for i, x := range got {
			for _, y := range got[:i] {
				if !apart(x, y) {
					t.Fatalf("Through(%+v, %+v) shares memory", d, l)
				}
			}
		}
		if e == api.OK {
			whole++
		} else {
			failed++
		}
	})
	if whole < 100 || failed < 100 {
		t.Errorf("%d and %d lists", whole, failed)
	}
	if steps, e := mapping.Through(doc(), nil, nil); len(steps) > 0 || e != api.OK {
		t.Errorf("Through of nothing = %+v, %d", steps, e)
	}
	inserted := para()
	inserted.Head.Marks.Ins = 3
	for i, c := range []struct {
		l    []api.Splice
		revs []api.Rev
		want api.Errno
	}{
		{[]api.Splice{items(0, 0, nil, flow(inserted))}, nil, api.ErrRevision}, {[]api.Splice{items(0, 0, nil, flow(inserted))}, samples.Revs(), api.OK}, {[]api.Splice{items(0, 0, nil, flow(para())), {}, items(9, 0, nil, nil)}, nil, api.ErrKind}, {[]api.Splice{items(0, 2, nil, flow(para()))}, nil, api.ErrRange},
	} {
		if steps, e := mapping.Through(doc(para()), c.l, c.revs); e != c.want || e != api.OK && len(steps) > 0 || e == api.OK && len(steps) != len(c.l) {
			t.Errorf("%d: Through = %+v, %d; want %d", i, steps, e, c.want)
		}
	}
}

func TestP19_2Examples(t *testing.T) {
	replaced, inserted := mapping.Step{At: 1, Old: 2, New: 3}, mapping.Step{At: 1, New: 1}
	deleted := mapping.Step{At: 3, Old: 1, Gone: []mapping.Gone{{Flow: 7, Left: pos(0, 3), Right: pos(0, 3)}}}
	other := mapping.Step{Flow: -1, Gone: []mapping.Gone{{Flow: 5, Left: pos(2, 8), Right: pos(2, 9)}}, Kept: []mapping.Kept{{Flow: 4, Len: 2}}}
	both := mapping.Step{Flow: 5, At: 1, Old: 2, New: 2, Gone: []mapping.Gone{{Flow: 5, Left: pos(1, 1), Right: pos(1, 2)}}, Kept: []mapping.Kept{{Flow: 5, Len: 9}, {Flow: 6, Len: 1}, {Flow: 6, Len: 5}}}
	for i, c := range []struct {
		x         mapping.Step
		p         api.Pos
		left      api.Pos
		keptLeft  bool
		right     api.Pos
		keptRight bool
		unit      api.Pos
		remains   bool
	}{
		{replaced, pos(0, 0), pos(0, 0), true, pos(0, 0), true, pos(0, 0), true}, {replaced, pos(0, 1), pos(0, 1), true, pos(0, 4), false, pos(0, 0), false}, {replaced, pos(0, 2), pos(0, 1), false, pos(0, 4), false, pos(0, 0), false}, {replaced, pos(0, 3), pos(0, 1), false, pos(0, 4), true, pos(0, 4), true}, {replaced, pos(0, 4), pos(0, 5), true, pos(0, 5), true, pos(0, 5), true}, {replaced, pos(3, 2), pos(3, 2), true, pos(3, 2), true, pos(3, 2), true},
		{inserted, pos(0, 0), pos(0, 0), true, pos(0, 0), true, pos(0, 0), true}, {inserted, pos(0, 1), pos(0, 1), true, pos(0, 2), true, pos(0, 2), true}, {inserted, pos(0, 2), pos(0, 3), true, pos(0, 3), true, pos(0, 3), true},
		{deleted, pos(7, 0), pos(0, 3), false, pos(0, 3), false, pos(0, 0), false}, {deleted, pos(7, 5), pos(0, 3), false, pos(0, 3), false, pos(0, 0), false}, {deleted, pos(0, 3), pos(0, 3), true, pos(0, 3), false, pos(0, 0), false}, {deleted, pos(0, 4), pos(0, 3), false, pos(0, 3), true, pos(0, 3), true},
		{other, pos(5, 1), pos(2, 8), false, pos(2, 9), false, pos(0, 0), false}, {other, pos(4, 1), pos(4, 1), true, pos(4, 1), true, pos(0, 0), false}, {other, pos(4, 2), pos(4, 2), true, pos(4, 2), true, pos(0, 0), false}, {other, pos(4, 3), pos(4, 2), false, pos(4, 2), false, pos(0, 0), false}, {other, pos(0, 3), pos(0, 3), true, pos(0, 3), true, pos(0, 3), true}, {other, pos(-1, 3), pos(-1, 3), true, pos(-1, 3), true, pos(-1, 3), true},
		{both, pos(5, 2), pos(1, 1), false, pos(1, 2), false, pos(0, 0), false}, {both, pos(6, 3), pos(6, 1), false, pos(6, 1), false, pos(0, 0), false},
	} {
		for _, side := range []int{mapping.Left, mapping.Right, 0, 3, -1, math.MaxInt} {
			want, kept := c.right, c.keptRight
			if side == mapping.Left {
				want, kept = c.left, c.keptLeft
			}
			if q, is := mapping.Map(c.x, c.p, side); q != want || is != kept {
				t.Errorf("%d: Map(%+v, %d) = %+v, %v; want %+v, %v", i, c.p, side, q, is, want, kept)
			}
			if q, is := mapping.MapAll([]mapping.Step{c.x}, c.p, side); q != want || is != kept {
				t.Errorf("%d: MapAll(%+v, %d) = %+v, %v; want %+v, %v", i, c.p, side, q, is, want, kept)
			}
		}
		if q, is := mapping.Unit(c.x, c.p); q != c.unit || is != c.remains {
			t.Errorf("%d: Unit(%+v) = %+v, %v; want %+v, %v", i, c.p, q, is, c.unit, c.remains)
		}
	}
}

// anySteps yields steps with small numbers, also impossible ones.
func anySteps(yield func(mapping.Step) bool) {
	bounds := []int{-2, -1, 0, 1, 2, 4}
	for _, id := range []int{-1, 0} {
		for _, at := range bounds {
			for _, old := range bounds {
				for _, new := range bounds {
					x := mapping.Step{Flow: id, At: at, Old: old, New: new, Gone: []mapping.Gone{{Flow: 2, Left: pos(at, old), Right: pos(new, at)}}, Kept: []mapping.Kept{{Flow: 3, Len: at}}}
					if !yield(x) {
						return
					}
				}
			}
		}
	}
	big := 1 << 40
	yield(mapping.Step{At: -big, Old: big, New: -big})
	yield(mapping.Step{At: big, Old: big, New: big, Kept: []mapping.Kept{{Flow: big, Len: -big}}})
	yield(mapping.Step{Flow: big, At: 0, Old: -big, New: big, Gone: []mapping.Gone{{Flow: -big, Left: pos(big, big), Right: pos(-big, -big)}}})
}

// TestP19_2All compares all functions of steps with small numbers, and with the greatest ones, with the rules.
func TestP19_2All(t *testing.T) {
	var last mapping.Step
	numbers := []int{-1 << 40, -3, -2, -1, 0, 1, 2, 3, 4, 5, 6, 7, 8, 1 << 40}
	for x := range anySteps {
		for _, id := range []int{-1, 0, 1, 2, 3, 1 << 40, -1 << 40} {
			for i, at := range numbers {
				p := pos(id, at)
				for _, side := range []int{mapping.Left, mapping.Right, 0} {
					q, kept := mapping.Map(x, p, side)
					if want, is := naiveMap(x, p, side); q != want || kept != is {
						t.Fatalf("Map(%+v, %+v, %d) = %+v, %v; want %+v, %v", x, p, side, q, kept, want, is)
					}
					first, is := naiveMap(last, p, side)
					want, also := naiveMap(x, first, side)
					if q, kept := mapping.MapAll([]mapping.Step{last, x}, p, side); q != want || kept != (is && also) {
						t.Fatalf("MapAll(%+v, %+v, %+v, %d) = %+v, %v; want %+v, %v", last, x, p, side, q, kept, want, is && also)
					}
				}
				q, remains := mapping.Unit(x, p)
				if want, is := naiveUnit(x, p); q != want || remains != is {
					t.Fatalf("Unit(%+v, %+v) = %+v, %v; want %+v, %v", x, p, q, remains, want, is)
				}
				for _, to := range numbers[i:] {
					r := api.Range{Flow: id, From: at, To: to}
					got, remains := mapping.Range(x, r)
					if want, is := naiveRange(x, r); got != want || remains != is {
						t.Fatalf("Range(%+v, %+v) = %+v, %v; want %+v, %v", x, r, got, remains, want, is)
					}
				}
			}
		}
		last = x
	}
	if q, kept := mapping.MapAll(nil, pos(3, 4), mapping.Left); q != pos(3, 4) || !kept {
		t.Errorf("MapAll of nothing = %+v, %v", q, kept)
	}
}

// TestP19_3Units checks that units are where the steps say, and nowhere else.
func TestP19_3Units(t *testing.T) {
	remaining, lost := 0, 0
	many(4000, 4, func(_ *rand.Rand, d api.Document, s api.Splice, behind api.Document) {
		x := mapping.Of(d, s)
		for _, id := range document.Flows(d) {
			units := unitsOf(d, id)
			now := unitsOf(behind, id)
			changed := slices.ContainsFunc(x.Kept, func(k mapping.Kept) bool { return k.Flow == id }) || now == nil
			for k := range units {
				q, is := mapping.Unit(x, pos(id, k))
				replaced := s.Kind == api.SpliceItems && s.Id == id && k >= s.At && k < s.At+len(samples.Units(s.Old.Items))
				if is == (changed || replaced) {
					t.Fatalf("%+v of %+v: Unit of %d in %d = %+v, %v", s, d, k, id, q, is)
				}
				if !is {
					lost++
					continue
				}
				remaining++
				if q.Flow != id || shallow(now[q.At]) != shallow(units[k]) {
					t.Fatalf("%+v of %+v: Unit of %d in %d = %+v, which is %+v", s, d, k, id, q, now[q.At])
				}
			}
		}
	})
	if remaining < 5000 || lost < 500 {
		t.Errorf("%d units, and %d that are lost", remaining, lost)
	}
}

// unitsOf returns the units of a flow, or nil if there is no such flow.
func unitsOf(d api.Document, id int) []api.Item {
	l, found := document.Flow(d, id)
	if !found {
		return nil
	}
	return append([]api.Item{}, samples.Units(l)...)
}

// shallow shows a unit without what is in it, which can be changed while the unit remains.
func shallow(item api.Item) string {
	item.Flow, item.Rows = nil, nil
	return show(item)
}

func TestP19_4Ranges(t *testing.T) {
	x := mapping.Step{At: 2, Old: 3, New: 2, Gone: []mapping.Gone{{Flow: 5}}, Kept: []mapping.Kept{{Flow: 6, Len: 2}}}
	for i, c := range []struct {
		r, want api.Range
		is      bool
	}{
		{api.Range{From: 0, To: 2}, api.Range{From: 0, To: 2}, true}, {api.Range{From: 0, To: 3}, api.Range{From: 0, To: 2}, true}, {api.Range{From: 2, To: 5}, api.Range{From: 2, To: 2}, true}, {api.Range{From: 3, To: 4}, api.Range{From: 2, To: 2}, true}, {api.Range{From: 2, To: 2}, api.Range{From: 2, To: 2}, true}, {api.Range{From: 3, To: 3}, api.Range{From: 2, To: 2}, true},
		{api.Range{From: 1, To: 6}, api.Range{From: 1, To: 5}, true}, {api.Range{From: 3, To: 7}, api.Range{From: 4, To: 6}, true}, {api.Range{From: 5, To: 7}, api.Range{From: 4, To: 6}, true}, {api.Range{From: 5, To: 5}, api.Range{From: 2, To: 2}, true}, {api.Range{From: 6, To: 6}, api.Range{From: 5, To: 5}, true},
		{api.Range{Flow: 5, From: 1, To: 2}, api.Range{}, false}, {api.Range{Flow: 6, From: 1, To: 4}, api.Range{Flow: 6, From: 1, To: 2}, true}, {api.Range{Flow: 6, From: 3, To: 4}, api.Range{Flow: 6, From: 2, To: 2}, true}, {api.Range{Flow: 7, From: 3, To: 4}, api.Range{Flow: 7, From: 3, To: 4}, true},
	} {
		if got, is := mapping.Range(x, c.r); got != c.want || is != c.is {
			t.Errorf("%d: Range(%+v) = %+v, %v; want %+v, %v", i, c.r, got, is, c.want, c.is)
		}
	}
}

func TestP19_5Equal(t *testing.T) {
	full := func() mapping.Step {
		return mapping.Step{Flow: 1, At: 2, Old: 3, New: 4, Gone: []mapping.Gone{{Flow: 5, Left: pos(6, 7), Right: pos(8, 9)}, {Flow: 1}}, Kept: []mapping.Kept{{Flow: 10, Len: 11}, {Flow: 12}}}
	}
	for i, change := range []func(x *mapping.Step){
		func(x *mapping.Step) { x.Flow++ }, func(x *mapping.Step) { x.At++ }, func(x *mapping.Step) { x.Old++ }, func(x *mapping.Step) { x.New++ }, func(x *mapping.Step) { x.Gone = x.Gone[:1] }, func(x *mapping.Step) { x.Gone[0].Flow++ }, func(x *mapping.Step) { x.Gone[0].Left.At++ }, func(x *mapping.Step) { x.Gone[1].Right.Flow++ },
		func(x *mapping.Step) { x.Kept = nil }, func(x *mapping.Step) { x.Kept[1].Flow++ }, func(x *mapping.Step) { x.Kept[0].Len++ }, func(x *mapping.Step) { slices.Reverse(x.Kept) }, func(x *mapping.Step) { slices.Reverse(x.Gone) },
	} {
		x := full()
		change(&x)
		if mapping.Equal(x, full()) || mapping.Equal(full(), x) {
			t.Errorf("%d: Equal", i)
		}
	}
	if !mapping.Equal(full(), full()) || !mapping.Equal(mapping.Step{}, mapping.Step{Gone: []mapping.Gone{}, Kept: []mapping.Kept{}}) {
		t.Error("not Equal")
	}
}

// TestP19_6Positions looks at all positions of documents before and behind splices.
func TestP19_6Positions(t *testing.T) {
	kept := 0
	many(2500, 5, func(_ *rand.Rand, d api.Document, s api.Splice, behind api.Document) {
		x, back := mapping.Of(d, s), mapping.Of(behind, splice.Inverse(s))
		last := make(map[[2]int]api.Pos)
		for _, p := range positions(d) {
			var sides []api.Pos
			for _, side := range []int{mapping.Left, mapping.Right} {
				q, is := mapping.Map(x, p, side)
				if e := position.Check(behind, q); e != api.OK {
					t.Fatalf("%+v of %+v: %+v is at %+v, which is no position: %d", s, d, p, q, e)
				}
				if before, has := last[[2]int{side, p.Flow}]; has {
					if order, _ := position.Compare(behind, before, q); order > 0 {
						t.Fatalf("%+v of %+v: %+v is at %+v, but the position before it at %+v", s, d, p, q, before)
					}
				}
				last[[2]int{side, p.Flow}] = q
				sides = append(sides, q)
				if !is {
					continue
				}
				kept++
				if again, is := mapping.Map(back, q, side); again != p || !is {
					t.Fatalf("%+v of %+v: %+v is at %+v, and then at %+v", s, d, p, q, again)
				}
				checkNeighbours(t, x, d, behind, p, q, side)
			}
			if order, _ := position.Compare(behind, sides[0], sides[1]); order > 0 {
				t.Fatalf("%+v of %+v: %+v is at %+v on the left, at %+v on the right", s, d, p, sides[0], sides[1])
			}
		}
	})
	if kept < 10000 {
		t.Errorf("%d positions are kept", kept)
	}
}

// checkNeighbours checks that a position that is kept is at the same unit as before.
func checkNeighbours(t *testing.T, x mapping.Step, before, behind api.Document, p, q api.Pos, side int) {
	t.Helper()
	if slices.ContainsFunc(x.Kept, func(k mapping.Kept) bool { return k.Flow == p.Flow }) { // there, only offsets are kept
		return
	}
	neighbour := func(d api.Document, p api.Pos) string {
		units := unitsOf(d, p.Flow)
		if side == mapping.Left {
			p.At--
		}
		if p.At < 0 || p.At == len(units) {
			return ""
		}
		return shallow(units[p.At])
	}
	if a, b := neighbour(before, p), neighbour(behind, q); a != b {
		t.Fatalf("%+v: on the side %d of %+v was %s, on that of %+v is %s", x, side, p, a, q, b)
	}
}

// TestP19_6Chains maps positions through several splices and back.
func TestP19_6Chains(t *testing.T) {
	kept := 0
	many(1200, 6, func(r *rand.Rand, d api.Document, s api.Splice, behind api.Document) {
		l := []api.Splice{s}
		for range 6 {
			s := samples.Splice(r.IntN, behind, samples.Revs())
			if next, e := splice.Apply(behind, s, samples.Revs()); e == api.OK {
				l, behind = append(l, s), next
			}
		}
		there, _ := mapping.Through(d, l, samples.Revs())
		back, e := mapping.Through(behind, splice.InverseAll(l), samples.Revs())
		if len(there) != len(l) || e != api.OK {
			t.Fatalf("%d steps for %d splices, and back: %d", len(there), len(l), e)
		}
		for _, p := range positions(d) {
			for _, side := range []int{mapping.Left, mapping.Right} {
				q, is := mapping.MapAll(there, p, side)
				if e := position.Check(behind, q); e != api.OK {
					t.Fatalf("%+v of %+v: %+v is at %+v, which is no position: %d", l, d, p, q, e)
				}
				if again, also := mapping.MapAll(back, q, side); is && (again != p || !also) {
					t.Fatalf("%+v of %+v: %+v is at %+v, and then at %+v", l, d, p, q, again)
				}
				if is {
					kept++
				}
			}
		}
	})
	if kept < 3000 {
		t.Errorf("%d positions are kept", kept)
	}
}
