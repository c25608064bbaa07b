package transform_test

import (
	"math"
	"math/rand/v2"
	"slices"
	"testing"

	"obelus/api"
	"obelus/document"
	"obelus/samples"
	"obelus/splice"
	"obelus/transform"
)

// wildSplices returns splices that are not well formed, or not possible.
func wildSplices(r *rand.Rand) []api.Splice {
	numbers := append(samples.Numbers(), 1<<40, 1<<40+1, 10, 11)
	number := func() int { return numbers[r.IntN(len(numbers))] }
	wrong := samples.Wrong(r.IntN)
	pieces := []api.Piece{
		{}, {Items: wrong.Flow}, {Rows: []api.Row{{}, row(cell(0, wrong.Flow...))}}, {Cells: []api.Cell{cell(-1, wrong.Flow...), {}}}, {Head: wrong.End}, {Settings: wrong.Settings},
		{Items: flow(text("a"), para())}, {Items: flow(text("\xFF"))}, {Rows: []api.Row{row(cell(1))}}, {Cells: []api.Cell{cell(2)}}, {Items: flow(note(0, note(0)))},
		{Items: wrong.Flow, Rows: []api.Row{{}}, Cells: make([]api.Cell, 2), Head: api.Head{Props: make([]api.Prop, 2)}, Settings: wrong.Settings},
	}
	var all []api.Splice
	for kind := -1; kind <= 8; kind++ {
		for _, p := range pieces {
			q := pieces[r.IntN(len(pieces))]
			all = append(all, api.Splice{Kind: kind, Id: number(), At: number(), Sub: number(), Old: p, New: q}, api.Splice{Kind: kind, At: number(), Old: p}, api.Splice{Kind: kind, New: q})
		}
	}
	return append(all, small(100)...)
}

func TestP1AllArguments(t *testing.T) {
	r := rand.New(rand.NewPCG(20, 1))
	errors := make(map[api.Errno]int)
	for range 40 {
		all := wildSplices(r)
		for _, s := range all {
			u, v := all[r.IntN(len(all))], all[r.IntN(len(all))]
			got, e := transform.Over(s, u, r.IntN(2) == 0)
			errors[e]++
			if e != api.OK && !isZero(got) || transform.Independent(s, u) && e != api.OK {
				t.Fatalf("Over(%+v, %+v) = %+v, %d", s, u, got, e)
			}
			a, b, e := transform.Lists([]api.Splice{s, v}, []api.Splice{u})
			if e != api.OK && len(a)+len(b) > 0 {
				t.Fatalf("Lists = %+v, %+v, %d", a, b, e)
			}
			if l, e := transform.Rebase([]api.Splice{s, v}, []api.Splice{u}, r.IntN(2) == 0); e != api.OK && len(l) > 0 {
				t.Fatalf("Rebase = %+v, %d", l, e)
			}
			transform.Ids(s.Old)
		}
	}
	for _, e := range []api.Errno{api.OK, api.ErrKind, api.ErrFormat, api.ErrUTF8, api.ErrRange, api.ErrConflict} {
		if errors[e] < 20 {
			t.Errorf("the error %d occurs %d times", e, errors[e])
		}
	}
}

// TestP1Deep nests flows as deeply as the document permits.
func TestP1Deep(t *testing.T) {
	deep := 1 << 16
	tables, notes := samples.Deep(deep)
	for i, l := range [][]api.Item{tables, notes} {
		s := items(0, 3, nil, l)
		ids := transform.Ids(s.New)
		if want := deep * (2 - i); len(ids) != want || ids[want-1] != want {
			t.Errorf("%d: %d ids", i, len(ids))
		}
		if got, e := transform.Over(letters(4, "", "x"), s, true); e != api.OK || got.At != 7 {
			t.Errorf("%d: Over = %d, %d", i, got.At, e)
		}
		if _, e := transform.Over(s, items(2, 0, nil, l), true); e != api.ErrConflict || transform.Independent(s, s) {
			t.Errorf("%d: Over = %d", i, e)
		}
		if _, _, e := transform.Lists([]api.Splice{splice.Inverse(s)}, []api.Splice{items(1+i, 0, nil, nil)}); i == 1 && e != api.ErrConflict {
			t.Errorf("%d: Lists = %d", i, e)
		}
	}
}

func TestP20_1Examples(t *testing.T) {
	bc, ef := letters(1, "bc", "X"), letters(4, "ef", "")
	for i, c := range []struct {
		s, t        api.Splice
		first       bool
		at, sub     int
		unconnected bool
	}{
		{s: ef, t: bc, at: 3}, {s: bc, t: ef, at: 1}, {s: letters(2, "", "y"), t: letters(2, "", "x"), at: 3}, {s: letters(2, "", "y"), t: letters(2, "", "x"), first: true, at: 2},
		// an insertion at the beginning of what is replaced, at its end, and the other way round
		{s: letters(1, "", "y"), t: bc, at: 1}, {s: letters(1, "", "y"), t: bc, first: true, at: 1}, {s: bc, t: letters(1, "", "yz"), at: 3}, {s: bc, t: letters(1, "", "yz"), first: true, at: 3}, {s: letters(3, "", "y"), t: bc, at: 2}, {s: bc, t: letters(3, "", "y"), first: true, at: 1},
		{s: letters(3, "d", ""), t: bc, at: 2}, {s: letters(0, "a", "uvw"), t: bc, at: 0}, {s: bc, t: letters(0, "a", "uvw"), at: 3}, {s: letters(9, "", "\u00e9"), t: letters(0, "", "\u00e9\U0001F600"), at: 11}, {s: letters(1, "", ""), t: letters(1, "", "xy"), at: 3}, {s: letters(1, "", "xy"), t: letters(1, "", ""), at: 1},
		{s: rows(2, someRows(1, 1), nil), t: rows(0, nil, someRows(5, 2)), at: 4}, {s: rows(2, someRows(1, 1), nil), t: rows(3, someRows(5, 1), nil), at: 2}, {s: rows(1, nil, someRows(1, 1)), t: rows(1, nil, someRows(5, 2)), at: 3}, {s: rows(1, nil, someRows(1, 1)), t: rows(1, nil, someRows(5, 2)), first: true, at: 1},
		{s: rowHead(3), t: rows(1, someRows(1, 2), someRows(5, 1)), at: 2}, {s: rowHead(1), t: rows(1, nil, someRows(5, 1)), at: 2}, {s: rowHead(0), t: rows(1, nil, someRows(5, 1)), at: 0}, {s: cellHead(3, 4), t: rows(1, nil, someRows(5, 2)), at: 5, sub: 4}, {s: cells(3, 4, nil, nil), t: rows(1, someRows(1, 2), nil), at: 1, sub: 4},
		{s: rows(1, someRows(1, 2), nil), t: rowHead(3), at: 1}, {s: rows(1, someRows(1, 2), nil), t: cellHead(0, 1), at: 1}, {s: rows(1, nil, someRows(1, 2)), t: cells(1, 0, someCells(5, 1), nil), at: 1},
		{s: cells(1, 2, someCells(1, 1), nil), t: cells(1, 0, nil, someCells(5, 2)), at: 1, sub: 4}, {s: cells(1, 2, someCells(1, 1), nil), t: cells(1, 3, someCells(5, 1), nil), at: 1, sub: 2}, {s: cells(1, 2, nil, someCells(1, 1)), t: cells(1, 2, nil, someCells(5, 2)), at: 1, sub: 4}, {s: cells(1, 2, nil, someCells(1, 1)), t: cells(1, 2, nil, someCells(5, 2)), first: true, at: 1, sub: 2},
		{s: cells(1, 2, someCells(1, 1), nil), t: cells(0, 1, someCells(5, 2), nil), at: 1, sub: 2}, {s: cellHead(1, 3), t: cells(1, 1, someCells(5, 2), someCells(7, 1)), at: 1, sub: 2}, {s: cellHead(1, 1), t: cells(1, 1, nil, someCells(7, 1)), at: 1, sub: 2}, {s: cellHead(1, 1), t: cells(2, 1, someCells(5, 1), nil), at: 1, sub: 1}, {s: cells(1, 1, someCells(5, 1), nil), t: cellHead(1, 2), at: 1, sub: 1},
		{s: rowHead(1), t: rowHead(2), at: 1}, {s: rowHead(1), t: cells(1, 0, someCells(5, 1), nil), at: 1}, {s: cells(1, 3, someCells(5, 1), nil), t: rowHead(1), at: 1, sub: 3}, {s: rowHead(1), t: cellHead(1, 0), at: 1}, {s: cellHead(1, 2), t: rowHead(1), at: 1, sub: 2}, {s: cellHead(1, 2), t: cellHead(1, 3), at: 1, sub: 2}, {s: cellHead(1, 2), t: cellHead(2, 2), at: 1, sub: 2},
		{s: end(), t: settings()}, {s: settings(), t: end()}, {s: end(), t: letters(0, "a", "")}, {s: letters(7, "a", ""), t: settings(), at: 7}, {s: settings(), t: rows(0, someRows(1, 1), nil)}, {s: cellHead(1, 2), t: end(), at: 1, sub: 2},
		{s: items(11, 1, nil, flow(para())), t: items(0, 0, nil, flow(para())), at: 1}, {s: items(11, 1, flow(para()), nil), t: items(0, 0, flow(note(12)), nil), at: 1}, {s: items(10, 1, flow(para()), nil), t: rowHead(1), at: 1}, {s: rowHead(1), t: items(10, 0, nil, flow(para())), at: 1}, {s: rows(1, someRows(20, 1), nil), t: items(10, 0, nil, flow(para())), at: 1},
	} {
		got, e := transform.Over(c.s, c.t, c.first)
		want := c.s
		want.At, want.Sub = c.at, c.sub
		if show(got) != show(want) || e != api.OK {
			t.Errorf("%d: Over = %d, %d, %d; want %d, %d", i, got.At, got.Sub, e, c.at, c.sub)
		}
	}
	greatest := letters(1<<40, "", "x")
	if got, e := transform.Over(greatest, letters(0, "", "abc"), true); got.At != 1<<40+3 || e != api.OK {
		t.Errorf("Over = %d, %d", got.At, e)
	}
}

func TestP20_1Conflicts(t *testing.T) {
	inNote := items(7, 0, nil, flow(text("x")))
	odd := api.Item{Kind: api.Para, Flow: flow(note(7)), Rows: []api.Row{row(cell(8))}}
	for i, c := range []struct{ s, t api.Splice }{
		{letters(1, "bc", "X"), letters(2, "", "y")}, {letters(1, "bc", ""), letters(2, "cd", "")}, {letters(1, "b", "x"), letters(1, "b", "x")}, {letters(0, "abcd", ""), letters(1, "b", "")}, {letters(0, "ab", ""), letters(1, "bc", "")},
		{rows(1, someRows(1, 2), nil), rows(2, someRows(2, 2), nil)}, {rows(1, someRows(1, 2), nil), rows(2, nil, someRows(5, 1))}, {rows(1, someRows(1, 2), nil), rowHead(1)}, {rows(1, someRows(1, 2), someRows(5, 2)), rowHead(2)}, {rows(1, someRows(1, 2), nil), cellHead(2, 3)}, {rows(1, someRows(1, 2), nil), cells(2, 3, nil, nil)},
		{cells(1, 1, someCells(1, 2), nil), cells(1, 2, nil, someCells(5, 1))}, {cells(1, 1, someCells(1, 2), nil), cells(1, 0, someCells(5, 2), nil)}, {cells(1, 1, someCells(1, 2), nil), cellHead(1, 1)}, {cells(1, 1, someCells(1, 2), someCells(5, 3)), cellHead(1, 2)},
		{rowHead(1), rowHead(1)}, {cellHead(1, 2), cellHead(1, 2)}, {end(), end()}, {settings(), settings()},
		{inNote, items(0, 4, flow(note(7)), nil)}, {inNote, items(0, 4, flow(note(7)), flow(note(7, text("y"))))}, {inNote, items(0, 0, flow(table(1, row(cell(2, note(7))))), nil)}, {inNote, rows(0, []api.Row{row(cell(2, note(7)))}, nil)}, {inNote, cells(0, 0, []api.Cell{cell(7)}, nil)}, {inNote, items(5, 0, flow(odd), nil)}, {items(8, 0, nil, flow(para())), items(5, 0, flow(odd), nil)},
		{rowHead(1), items(0, 0, flow(table(10, row(cell(1)))), nil)}, {cellHead(1, 1), items(3, 0, flow(table(10, row(cell(1)))), nil)}, {rows(1, nil, someRows(1, 1)), items(0, 0, flow(table(10, row(cell(1)))), nil)}, {cells(1, 1, nil, nil), items(0, 0, flow(note(1, table(10, row(cell(2))))), nil)},
		{items(0, 0, nil, flow(note(5))), items(0, 9, nil, flow(note(5)))}, {items(0, 0, nil, flow(note(5))), items(2, 9, nil, flow(table(1, row(cell(5)))))}, {items(0, 0, nil, flow(table(5, row(cell(6))))), rows(0, nil, someRows(5, 1))}, {cells(0, 0, nil, someCells(5, 2)), rows(9, nil, someRows(6, 1))}, {items(0, 0, nil, flow(odd)), items(4, 0, nil, flow(note(7)))},
		{items(0, 0, nil, flow(note(0))), items(1, 0, flow(note(0)), nil)},
	} {
		for _, first := range []bool{true, false} {
			if got, e := transform.Over(c.s, c.t, first); e != api.ErrConflict || !isZero(got) {
				t.Errorf("%d: Over = %+v, %d", i, got, e)
			}
			if got, e := transform.Over(c.t, c.s, first); e != api.ErrConflict || !isZero(got) {
				t.Errorf("%d: Over the other way round = %+v, %d", i, got, e)
			}
		}
	}
	for i, c := range []struct{ s, t api.Splice }{ // what is removed by one and inserted by the other has no meaning; nor have ids of anchors
		{items(0, 0, flow(note(5)), nil), items(0, 9, nil, flow(note(5)))}, {items(0, 0, flow(note(5)), nil), items(3, 0, flow(note(5)), nil)}, {items(3, 0, nil, flow(samples.Anchor(1, 4))), items(4, 0, nil, flow(samples.Anchor(1, 4)))}, {items(3, 0, nil, nil), items(4, 0, flow(samples.Anchor(1, 3)), nil)}, {items(3, 0, nil, nil), items(4, 0, nil, flow(note(3)))},
	} {
		if _, e := transform.Over(c.s, c.t, true); e != api.OK {
			t.Errorf("%d: Over = %d", i, e)
		}
		if _, e := transform.Over(c.t, c.s, true); e != api.OK {
			t.Errorf("%d: Over the other way round = %d", i, e)
		}
	}
}

func TestP20_1Order(t *testing.T) {
	kind, format, utf8 := api.Splice{Kind: 8}, letters(0, "", ""), letters(0, "\xFF", "")
	format.Sub = 1
	low, high, good := letters(-1, "", ""), letters(1<<40+1, "", ""), letters(1, "b", "")
	lowSub, highSub := cells(1, -1, nil, nil), cells(1, 1<<40+1, nil, nil)
	wrongAndHigh := letters(math.MaxInt, "\xFF", "")
	for i, c := range []struct {
		s, t api.Splice
		want api.Errno
	}{
		{kind, format, api.ErrKind}, {format, kind, api.ErrFormat}, {utf8, kind, api.ErrUTF8}, {good, utf8, api.ErrUTF8}, {good, format, api.ErrFormat}, {utf8, good, api.ErrUTF8},
		{low, utf8, api.ErrUTF8}, {high, kind, api.ErrKind}, {wrongAndHigh, low, api.ErrUTF8}, {low, good, api.ErrRange}, {good, low, api.ErrRange}, {high, good, api.ErrRange}, {good, high, api.ErrRange}, {lowSub, good, api.ErrRange}, {good, lowSub, api.ErrRange}, {highSub, end(), api.ErrRange}, {settings(), highSub, api.ErrRange},
		{low, low, api.ErrRange}, {letters(math.MaxInt, "a", ""), letters(math.MaxInt, "a", ""), api.ErrRange}, {letters(math.MinInt, "a", ""), good, api.ErrRange}, {rowHead(-1), rowHead(-1), api.ErrRange}, {rowHead(1 << 40), rowHead(1 << 40), api.ErrConflict}, {letters(1<<40, "a", ""), letters(1<<40, "a", ""), api.ErrConflict}, {cells(0, 1<<40, nil, nil), cells(1<<40, 0, nil, nil), api.OK},
	} {
		for _, first := range []bool{true, false} {
			if got, e := transform.Over(c.s, c.t, first); e != c.want || e != api.OK && !isZero(got) {
				t.Errorf("%d: Over = %+v, %d; want %d", i, got, e, c.want)
			}
		}
	}
}

// TestP20_1All compares all pairs of small splices with what the rules give.
func TestP20_1All(t *testing.T) {
	agree, conflict := make(map[[2]int]int), make(map[[2]int]int)
	others := small(200)
	for _, s := range small(100) {
		if splice.Check(s) != api.OK {
			t.Fatalf("%+v is not well formed", s)
		}
		for _, u := range others {
			for _, first := range []bool{true, false} {
				got, e := transform.Over(s, u, first)
				want, f := naiveOver(s, u, first)
				if e != f || !splice.Equal(got, want) {
					t.Fatalf("Over(%+v, %+v, %v) = %+v, %d; want %+v, %d", s, u, first, got, e, want, f)
				}
				if e == api.OK {
					agree[[2]int{s.Kind, u.Kind}]++
				} else {
					conflict[[2]int{s.Kind, u.Kind}]++
				}
			}
		}
	}
	for s := api.SpliceItems; s <= api.SpliceSet; s++ {
		for u := api.SpliceItems; u <= api.SpliceSet; u++ {
			pair := [2]int{s, u}
			whole := s >= api.SpliceEnd || u >= api.SpliceEnd
			if agree[pair] == 0 != (whole && s == u) || conflict[pair] > 0 && whole && s != u {
				t.Errorf("splices of the kinds %d and %d: %d agree, %d do not", s, u, agree[pair], conflict[pair])
			}
		}
	}
}

// pairs calls a function for many documents with two splices that are often possible.
func pairs(count int, seed uint64, f func(d api.Document, s, t api.Splice)) {
	r := rand.New(rand.NewPCG(20, seed))
	for range count {
		d := samples.Document(r.IntN)
		f(d, samples.Splice(r.IntN, d, samples.Revs()), samples.Splice(r.IntN, d, samples.Revs()))
	}
}

func TestP20_1Many(t *testing.T) {
	errors := make(map[api.Errno]int)
	pairs(6000, 2, func(_ api.Document, s, u api.Splice) {
		for _, first := range []bool{true, false} {
			before := show(s) + show(u)
			got, e := transform.Over(s, u, first)
			want, f := naiveOver(s, u, first)
			if e != f || show(got) != show(want) {
				t.Fatalf("Over(%+v, %+v, %v) = %+v, %d; want %+v, %d", s, u, first, got, e, want, f)
			}
			if !samples.Apart(got, s, u) {
				t.Fatalf("Over(%+v, %+v) = %+v shares memory", s, u, got)
			}
			if show(s)+show(u) != before {
				t.Fatalf("%s was changed to %s", before, show(s)+show(u))
			}
			errors[e]++
		}
	})
	if errors[api.OK] < 1000 || errors[api.ErrConflict] < 1000 || errors[api.ErrFormat] < 20 || errors[api.ErrRange] < 20 {
		t.Errorf("the errors %v", errors)
	}
}

// naiveIndependent is the definition of the chapter.
func naiveIndependent(s, t api.Splice) bool {
	there, e := naiveOver(s, t, true)
	back, f := naiveOver(t, s, true)
	thereToo, _ := naiveOver(s, t, false)
	backToo, _ := naiveOver(t, s, false)
	return e == api.OK && f == api.OK && splice.Equal(there, thereToo) && splice.Equal(back, backToo)
}

func TestP20_2Independent(t *testing.T) {
	for i, c := range []struct {
		s, t api.Splice
		want bool
	}{
		{letters(1, "bc", "X"), letters(4, "ef", ""), true}, {letters(2, "", "x"), letters(2, "", "y"), false}, {letters(2, "", "x"), letters(2, "", ""), false}, {letters(2, "", ""), letters(2, "", ""), true}, {letters(1, "b", "x"), letters(2, "", "y"), true}, {letters(1, "b", "x"), letters(1, "", "y"), true}, {letters(1, "b", ""), letters(1, "b", ""), false},
		{cells(1, 2, nil, someCells(1, 1)), cells(1, 2, nil, someCells(5, 1)), false}, {cells(1, 2, nil, someCells(1, 1)), cells(0, 2, nil, someCells(5, 1)), true}, {rows(2, nil, someRows(1, 1)), rows(2, nil, someRows(5, 1)), false}, {rows(2, nil, someRows(1, 1)), rowHead(2), true}, {rowHead(2), rowHead(2), false}, {end(), settings(), true}, {end(), end(), false},
		{letters(1, "\xFF", ""), letters(5, "", ""), false}, {letters(1, "", ""), api.Splice{}, false}, {letters(-1, "", ""), letters(5, "", ""), false}, {letters(1, "", ""), letters(1<<40+1, "", ""), false},
	} {
		if transform.Independent(c.s, c.t) != c.want || transform.Independent(c.t, c.s) != c.want {
			t.Errorf("%d: Independent = %v", i, !c.want)
		}
	}
	count := make(map[bool]int)
	check := func(s, u api.Splice) {
		want := naiveIndependent(s, u)
		if transform.Independent(s, u) != want {
			t.Fatalf("Independent(%+v, %+v) = %v", s, u, !want)
		}
		count[want]++
	}
	others := small(200)
	for _, s := range small(100) {
		for _, u := range others {
			check(s, u)
		}
	}
	pairs(1500, 3, func(_ api.Document, s, u api.Splice) { check(s, u) })
	if count[true] < 2000 || count[false] < 2000 {
		t.Errorf("%v pairs", count)
	}
}

func TestP20_3Examples(t *testing.T) {
	x, y, both := letters(2, "", "x"), letters(3, "", "y"), letters(2, "", "uv")
	all := func(l ...api.Splice) []api.Splice { return l }
	for i, c := range []struct {
		a, b, aOver, bOver []api.Splice
		e                  api.Errno
	}{
		{nil, nil, nil, nil, api.OK}, {all(x, y), nil, all(x, y), nil, api.OK}, {nil, all(both), nil, all(both), api.OK}, {all(letters(1, "\xFF", ""), api.Splice{}), nil, all(letters(1, "\xFF", ""), api.Splice{}), nil, api.OK}, {nil, all(api.Splice{}), nil, all(api.Splice{}), api.OK},
		{all(x), all(both), all(x), all(letters(3, "", "uv")), api.OK}, {all(x, y), all(both), all(x, y), all(letters(4, "", "uv")), api.OK}, {all(both), all(x, y), all(both), all(letters(4, "", "x"), letters(5, "", "y")), api.OK},
		{all(letters(1, "bc", "X")), all(letters(4, "ef", "")), all(letters(1, "bc", "X")), all(letters(3, "ef", "")), api.OK}, {all(letters(0, "ab", ""), letters(0, "", "z")), all(letters(3, "d", "DD"), letters(5, "e", "")), all(letters(0, "ab", ""), letters(0, "", "z")), all(letters(2, "d", "DD"), letters(4, "e", "")), api.OK},
		{all(letters(0, "ab", "")), all(letters(4, "", "z"), letters(1, "b", "")), nil, nil, api.ErrConflict}, {all(x, letters(0, "ab", "")), all(letters(9, "", "z"), letters(1, "b", ""), api.Splice{}), nil, nil, api.ErrKind}, {all(letters(0, "ab", ""), x), all(letters(9, "", "z"), letters(1, "b", ""), api.Splice{}), nil, nil, api.ErrConflict}, {all(api.Splice{}, x), all(utf8()), nil, nil, api.ErrKind}, {all(x, api.Splice{}), all(y, utf8()), nil, nil, api.ErrUTF8},
		{all(letters(1<<40, "", "x")), all(letters(0, "", "z")), all(letters(1<<40+1, "", "x")), all(letters(0, "", "z")), api.OK}, {all(letters(1<<40, "", "x")), all(letters(0, "", "z"), letters(0, "", "z")), nil, nil, api.ErrRange},
	} {
		a, b, e := transform.Lists(c.a, c.b)
		if show(a) != show(c.aOver) || show(b) != show(c.bOver) || e != c.e {
			t.Errorf("%d: Lists = %+v, %+v, %d; want %+v, %+v, %d", i, a, b, e, c.aOver, c.bOver, c.e)
		}
	}
}

func utf8() api.Splice { return letters(0, "\xFF", "") }

// lists calls a function for many documents, each with two lists of splices that can be run with some revisions.
func lists(count int, seed uint64, f func(r *rand.Rand, d api.Document, a, b []api.Splice)) {
	r := rand.New(rand.NewPCG(20, seed))
	for range count {
		d := samples.Document(r.IntN)
		a, _ := samples.Splices(r.IntN, d, 1+r.IntN(3), samples.Revs())
		b, _ := samples.Splices(r.IntN, d, 1+r.IntN(3), samples.Revs())
		f(r, d, a, b)
	}
}

func TestP20_3Many(t *testing.T) {
	errors := make(map[api.Errno]int)
	lists(1500, 4, func(r *rand.Rand, _ api.Document, a, b []api.Splice) {
		if r.IntN(4) == 0 {
			a = append(a, small(100)[r.IntN(50)])
		}
		before := show(a) + show(b)
		aOver, bOver, e := transform.Lists(a, b)
		aWant, bWant, f := naiveLists(a, b)
		if e != f || show(aOver) != show(aWant) || e == api.OK && show(bOver) != show(bWant) || e != api.OK && len(bOver) > 0 {
			t.Fatalf("Lists(%+v, %+v) = %+v, %+v, %d; want %+v, %+v, %d", a, b, aOver, bOver, e, aWant, bWant, f)
		}
		if show(a)+show(b) != before || !samples.Apart(aOver, bOver, a, b) {
			t.Fatalf("%s was changed, or shares memory", before)
		}
		errors[e]++
	})
	if errors[api.OK] < 300 || errors[api.ErrConflict] < 300 {
		t.Errorf("the errors %v", errors)
	}
}

func TestP20_4Rebase(t *testing.T) {
	x, y := letters(2, "", "x"), letters(2, "", "yz")
	for i, c := range []struct {
		first bool
		at    int
	}{{true, 2}, {false, 4}} {
		if l, e := transform.Rebase([]api.Splice{x}, []api.Splice{y}, c.first); e != api.OK || len(l) != 1 || l[0].At != c.at {
			t.Errorf("%d: Rebase = %+v, %d", i, l, e)
		}
		if l, e := transform.Rebase([]api.Splice{x, {}}, nil, c.first); e != api.OK || show(l) != show([]api.Splice{x, {}}) {
			t.Errorf("%d: Rebase over nothing = %+v, %d", i, l, e)
		}
	}
	// the first list comes first, also with its errors
	if _, e := transform.Rebase([]api.Splice{utf8()}, []api.Splice{{}}, true); e != api.ErrUTF8 {
		t.Errorf("Rebase = %d", e)
	}
	if _, e := transform.Rebase([]api.Splice{utf8()}, []api.Splice{{}}, false); e != api.ErrKind {
		t.Errorf("Rebase = %d", e)
	}
	moved := 0
	lists(1000, 5, func(_ *rand.Rand, _ api.Document, l, over []api.Splice) {
		want, _, e := transform.Lists(l, over)
		if got, f := transform.Rebase(l, over, true); f != e || show(got) != show(want) || !samples.Apart(got, l, over) {
			t.Fatalf("Rebase(%+v, %+v, true) = %+v, %d; want %+v, %d", l, over, got, f, want, e)
		}
		_, want, e = transform.Lists(over, l)
		if got, f := transform.Rebase(l, over, false); f != e || show(got) != show(want) || !samples.Apart(got, l, over) {
			t.Fatalf("Rebase(%+v, %+v, false) = %+v, %d; want %+v, %d", l, over, got, f, want, e)
		}
		if e == api.OK && show(want) != show(l) {
			moved++
		}
	})
	if moved < 100 {
		t.Errorf("%d lists were moved", moved)
	}
}

func TestP20_5Ids(t *testing.T) {
	odd := api.Item{Kind: api.Text, Id: 77, Flow: flow(note(8)), Rows: []api.Row{row(cell(9, note(2)))}}
	for i, c := range []struct {
		p    api.Piece
		want []int
	}{
		{api.Piece{}, nil}, {api.Piece{Items: flow(text("a"), samples.Anchor(1, 5), para())}, nil}, {api.Piece{Items: flow(note(7, table(3, row(cell(9), cell(1)))), note(2))}, []int{1, 2, 3, 7, 9}}, {api.Piece{Items: flow(odd)}, []int{2, 8, 9}}, {api.Piece{Items: flow(note(4), note(4), table(4, row(cell(4))))}, []int{4}}, {api.Piece{Items: flow(note(0), note(-3))}, []int{-3, 0}},
		{api.Piece{Rows: []api.Row{row(cell(6, note(5))), {}, row(cell(4), cell(3))}}, []int{3, 4, 5, 6}}, {api.Piece{Cells: []api.Cell{cell(6, note(5)), cell(2)}}, []int{2, 5, 6}}, {api.Piece{Items: flow(note(3)), Rows: someRows(5, 2), Cells: someCells(1, 2), Head: api.Head{Props: make([]api.Prop, 1)}}, []int{1, 2, 3, 5, 6}},
		{api.Piece{Items: flow(api.Item{Kind: api.Note, Id: 6, Rows: someRows(2, 1)}, api.Item{Kind: api.Table, Id: 5, Flow: flow(note(1))}, api.Item{Kind: 99, Id: 9, Flow: flow(note(3))})}, []int{1, 2, 3, 5, 6}},
	} {
		if got := transform.Ids(c.p); !slices.Equal(got, c.want) {
			t.Errorf("%d: Ids = %v; want %v", i, got, c.want)
		}
	}
	pairs(2000, 6, func(d api.Document, s, _ api.Splice) {
		if got := transform.Ids(api.Piece{Items: d.Flow}); !slices.Equal(got, document.Ids(d)) {
			t.Fatalf("Ids of %+v = %v", d, got)
		}
		before := show(s)
		for _, p := range []api.Piece{s.Old, s.New} {
			want := naiveIds(p)
			slices.Sort(want)
			if got := transform.Ids(p); !slices.Equal(got, slices.Compact(want)) {
				t.Fatalf("Ids(%+v) = %v; want %v", p, got, want)
			}
		}
		if show(s) != before {
			t.Fatalf("%s was changed", before)
		}
	})
}
