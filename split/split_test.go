package split_test

import (
	"math/rand/v2"
	"slices"
	"strings"
	"testing"

	"obelus/api"
	"obelus/document"
	"obelus/samples"
	"obelus/split"
)

func TestP1AllArguments(t *testing.T) {
	r := rand.New(rand.NewPCG(28, 1))
	zero := del(ins(layered(text("a"), layers(2, 0, 0, 1, 1)...), 0, -1), by(0, 2), by(-1, -2), by(-1, 3))
	wild := []api.Document{{}, {Flow: flow(zero), Revs: []api.Rev{{}, {Id: -1}, {Id: 1, Author: "Ann"}, {Id: 1}}}, {Flow: flow(ins(text("\xFF"), 1, 1), note(0, zero, note(0, zero, text(""))), ins(table(1), 1, 0), table(1, row(), row(cell(0, zero)))), Revs: []api.Rev{{Id: 1, Author: "Ann"}, {}}}, {Flow: flow(api.Item{Kind: 99, Id: 1, Flow: flow(zero), Rows: []api.Row{row(cell(1, zero))}}), End: del(ins(zero, 1, 2), by(1, 2)).Head, Revs: []api.Rev{{Id: 1, Author: "Ann"}}}}
	for range 500 {
		wild = append(wild, samples.Wrong(r.IntN), samples.Document(r.IntN))
	}
	numbers := samples.Numbers()
	number := func() int { return numbers[r.IntN(len(numbers))] }
	for i, d := range wild {
		for range 12 {
			v := api.Rev{Id: number(), Author: []string{"Ann", "", "\xFF"}[r.IntN(3)], Time: number()}
			s, id := span(number(), number(), number()), number()
			if r.IntN(2) == 0 {
				s = someRange(r, d)
			}
			inside, outside, e := split.Count(d, id, s)
			if e != api.OK && (inside != 0 || outside != 0) {
				t.Fatalf("%d: Count = %d, %d, %d", i, inside, outside, e)
			}
			docs, errors := make([]api.Document, 3), make([]api.Errno, 3)
			docs[0], errors[0] = split.Split(d, id, s, v)
			docs[1], errors[1] = split.Combine(d, []int{id, number()}[:r.IntN(3)], v)
			docs[2], errors[2] = split.Reassign(d, id, v)
			for k := range docs {
				if errors[k] != api.OK && !isEmpty(docs[k]) {
					t.Fatalf("%d, %d: %+v, %d", i, k, docs[k], errors[k])
				}
			}
		}
	}
}

// TestP1Deep nests flows as deeply as the document permits.
func TestP1Deep(t *testing.T) {
	tables, notes := samples.Deep(1 << 16)
	for i, l := range [][]api.Item{tables, notes} {
		d, found := document.SetFlow(api.Document{Flow: l, Revs: []api.Rev{rev(3), rev(5)}}, 4, flow(ins(text("abc"), 3, 0), ins(text("d"), 5, 0)))
		if inside, outside, e := split.Count(d, 3, span(4, 1, 3)); inside != 2 || outside != 1 || e != api.OK || !found {
			t.Errorf("%d: Count = %d, %d, %d", i, inside, outside, e)
		}
		if inside, outside, e := split.Count(d, 3, span(0, 1, 2)); inside != 3 || outside != 0 || e != api.OK {
			t.Errorf("%d: Count = %d, %d, %d", i, inside, outside, e)
		}
		divided, e := split.Split(d, 3, span(4, 1, 3), rev(6))
		if got, _ := document.Flow(divided, 4); show(got) != show(flow(ins(text("a"), 3, 0), ins(text("bc"), 6, 0), ins(text("d"), 5, 0))) || e != api.OK {
			t.Errorf("%d: Split makes %+v, %d", i, got, e)
		}
		combined, e := split.Combine(d, []int{3, 5}, rev(5))
		if got, _ := document.Flow(combined, 4); show(got) != show(flow(ins(text("abcd"), 5, 0))) || e != api.OK {
			t.Errorf("%d: Combine makes %+v, %d", i, got, e)
		}
		other, e := split.Reassign(d, 3, rev(9))
		if got, _ := document.Flow(other, 4); show(got) != show(flow(ins(text("abc"), 9, 0), ins(text("d"), 5, 0))) || e != api.OK {
			t.Errorf("%d: Reassign makes %+v, %d", i, got, e)
		}
	}
}

// several has marks by 3, 5 and 7 in a table, in a note, in the body and in End.
func several() api.Document {
	in := row(cell(2, ins(text("ab"), 3, 0), del(para(), by(3, 0))), cell(4, note(9, del(text("\u00e9\U0001F600"), by(5, 0), by(7, 0)))))
	in.Head.Marks.Layers = layers(api.KeyRowHeight, 3)
	in.Cells[0].Head.Marks.Ins = 5
	in.Cells[1].Head.Marks.Dels = []api.Del{by(3, 0)}
	d := api.Document{Flow: flow(ins(text("cd"), 3, 0), ins(table(1, in), 7, 0), layered(text("efg"), layers(api.KeyColor, 3, 3, 5)...), del(samples.Start(1, "name"), by(3, 0)), ins(para(), 5, 0)), Revs: []api.Rev{rev(3), rev(5), rev(7)}}
	d.End.Marks.Layers = layers(api.KeyTop, 3, 7, 3)
	return d
}

func TestP28_1Count(t *testing.T) {
	for i, c := range []struct {
		d               api.Document
		rev             int
		r               api.Range
		inside, outside int
		e               api.Errno
	}{
		{several(), 3, span(0, 0, 0), 0, 12, api.OK}, {several(), 3, span(0, 0, 8), 11, 1, api.OK}, {several(), 3, span(0, 0, 1), 1, 11, api.OK}, {several(), 3, span(0, 1, 2), 1, 11, api.OK}, {several(), 3, span(0, 2, 3), 5, 7, api.OK}, {several(), 3, span(0, 1, 5), 8, 4, api.OK}, {several(), 3, span(0, 6, 7), 1, 11, api.OK}, {several(), 3, span(0, 7, 8), 0, 12, api.OK},
		{several(), 3, span(2, 0, 3), 3, 9, api.OK}, {several(), 3, span(2, 1, 3), 2, 10, api.OK}, {several(), 3, span(4, 0, 1), 0, 12, api.OK}, {several(), 3, span(9, 0, 2), 0, 12, api.OK},
		{several(), 5, span(4, 0, 1), 2, 5, api.OK}, {several(), 5, span(9, 1, 2), 1, 6, api.OK}, {several(), 5, span(0, 2, 3), 3, 4, api.OK}, {several(), 7, span(0, 2, 3), 3, 1, api.OK}, {several(), 7, span(0, 3, 8), 0, 4, api.OK}, {several(), 7, span(9, 0, 2), 2, 2, api.OK},
		{several(), 4, span(8, 0, 99), 0, 0, api.ErrNotFound}, {several(), 3, span(1, 0, 0), 0, 0, api.ErrNotFound}, {several(), 4, span(0, -1, 2), 0, 0, api.ErrRange}, {several(), 3, span(0, 3, 2), 0, 0, api.ErrRange}, {several(), 3, span(0, 0, 9), 0, 0, api.ErrRange}, {several(), 3, span(4, 2, 2), 0, 0, api.ErrRange}, {several(), 4, span(0, 0, 8), 0, 0, api.ErrRevision}, {several(), 0, span(0, 0, 8), 0, 0, api.ErrRevision}, {several(), -3, span(0, 0, 8), 0, 0, api.ErrRevision}, {api.Document{}, 3, span(0, 0, 0), 0, 0, api.ErrRevision}, {api.Document{Revs: []api.Rev{rev(3)}}, 3, span(0, 0, 0), 0, 0, api.OK},
	} {
		if e := document.Check(c.d); e != api.OK {
			t.Fatalf("%d: the document has the error %d", i, e)
		}
		if inside, outside, e := split.Count(c.d, c.rev, c.r); inside != c.inside || outside != c.outside || e != c.e {
			t.Errorf("%d: Count = %d, %d, %d; want %d, %d, %d", i, inside, outside, e, c.inside, c.outside, c.e)
		}
	}
	both := 0
	many(4000, 2, func(r *rand.Rand, d api.Document) {
		id, s := r.IntN(5), someRange(r, d)
		inside, outside, e := split.Count(d, id, s)
		in, out, want := naiveCount(d, id, s)
		if inside != in || outside != out || e != want {
			t.Fatalf("Count(%+v, %d, %v) = %d, %d, %d; want %d, %d, %d", d, id, s, inside, outside, e, in, out, want)
		}
		if inside > 0 && outside > 0 {
			both++
		}
	})
	if both < 200 {
		t.Errorf("%d ranges divide a revision", both)
	}
}

func TestP28_2Split(t *testing.T) {
	six := []api.Rev{rev(3), rev(5), {Id: 6, Author: "Bob"}, rev(7)}
	next := six[2]
	with := func(d api.Document, revs ...api.Rev) api.Document { d.Revs = revs; return d }
	moved := doc(del(text("ab"), by(3, 2)), text("c"), ins(text("ab"), 3, 2), ins(text("d"), 3, 0))
	for i, c := range []struct {
		d    api.Document
		r    api.Range
		want api.Document
	}{
		{doc(ins(text("abcd"), 3, 0), para()), span(0, 1, 3), with(doc(ins(text("a"), 3, 0), ins(text("bc"), 6, 0), ins(text("d"), 3, 0), para()), rev(3), next)},
		{doc(del(text("abc"), by(3, 0), by(7, 4)), text("x")), span(0, 2, 4), with(doc(del(text("ab"), by(3, 0), by(7, 4)), del(text("c"), by(6, 0), by(7, 4)), text("x")), rev(3), next, rev(7))}, {doc(del(text("abc"), by(3, 0), by(5, 4)), text("x")), span(0, 0, 1), with(doc(del(text("a"), by(5, 4), by(6, 0)), del(text("bc"), by(3, 0), by(5, 4)), text("x")), rev(3), rev(5), next)},
		{moved, span(0, 0, 5), with(doc(del(text("ab"), by(6, 2)), text("c"), ins(text("ab"), 6, 2), ins(text("d"), 3, 0)), rev(3), next)}, {moved, span(0, 5, 6), with(doc(del(text("ab"), by(3, 2)), text("c"), ins(text("ab"), 3, 2), ins(text("d"), 6, 0)), rev(3), next)},
		{doc(layered(ins(text("ab"), 3, 0), layers(api.KeyColor, 3, 5, 3)...)), span(0, 0, 1), with(doc(layered(ins(text("a"), 6, 0), layers(api.KeyColor, 6, 5, 6)...), layered(ins(text("b"), 3, 0), layers(api.KeyColor, 3, 5, 3)...)), rev(3), rev(5), next)},
		{doc(ins(note(8, ins(text("ab"), 3, 0), ins(text("c"), 5, 0)), 3, 0), ins(para(), 3, 0)), span(0, 0, 1), with(doc(ins(note(8, ins(text("ab"), 6, 0), ins(text("c"), 5, 0)), 6, 0), ins(para(), 3, 0)), rev(3), rev(5), next)}, {doc(ins(note(8, ins(text("ab"), 3, 0), ins(text("c"), 5, 0)), 3, 0), ins(para(), 3, 0)), span(8, 0, 3), with(doc(ins(note(8, ins(text("ab"), 6, 0), ins(text("c"), 5, 0)), 3, 0), ins(para(), 3, 0)), rev(3), rev(5), next)},
	} {
		if document.Check(c.d) != api.OK || document.Check(c.want) != api.OK {
			t.Fatalf("%d: the documents have the errors %d and %d", i, document.Check(c.d), document.Check(c.want))
		}
		if got, e := split.Split(c.d, 3, c.r, next); show(got) != show(c.want) || e != api.OK {
			t.Errorf("%d: Split = %+v, %d; want %+v", i, got, e, c.want)
		}
	}
	// rows and cells go with their table, End stays
	d := several()
	got, e := split.Split(d, 3, span(0, 2, 3), next)
	table := got.Flow[1]
	if m := table.Rows[0].Head.Marks.Layers; e != api.OK || show(m) != show(layers(api.KeyRowHeight, 6)) || table.Head.Marks.Ins != 7 || table.Rows[0].Cells[0].Head.Marks.Ins != 5 || show(table.Rows[0].Cells[1].Head.Marks.Dels) != show([]api.Del{by(6, 0)}) || show(got.End) != show(d.End) || show(got.Revs) != show(six) {
		t.Errorf("Split = %+v, %d", got, e)
	}
}

func TestP28_2Errors(t *testing.T) {
	full := doc(ins(text("ab"), 3, 1), del(para(), by(3, 0)))
	for id := 100; len(full.Revs) < api.MaxRevs; id++ {
		full.Revs = append(full.Revs, rev(id))
	}
	almost := document.Clone(full)
	almost.Revs = almost.Revs[:api.MaxRevs-1]
	moved := doc(del(text("ab"), by(3, 2)), text("c"), ins(text("ab"), 3, 2), ins(text("d"), 3, 0), ins(text("e"), 5, 2))
	inRow := doc(table(1, row(cell(2, ins(text("a"), 3, 7))), row(cell(3, ins(text("b"), 3, 0)))))
	inRow.Flow[0].Rows[1].Head.Marks = api.Marks{Ins: 3, Move: 7}
	inCell := document.Clone(inRow)
	inCell.Flow[0].Rows[1].Head.Marks, inCell.Flow[0].Rows[1].Cells[0].Head.Marks = api.Marks{}, api.Marks{Dels: []api.Del{by(3, 7)}}
	wrong := api.Rev{Id: 5}
	for i, c := range []struct {
		d    api.Document
		rev  int
		r    api.Range
		next api.Rev
		e    api.Errno
	}{
		{full, 4, span(9, 0, 9), wrong, api.ErrNotFound}, {full, 4, span(0, 0, 4), wrong, api.ErrRange}, {full, 4, span(0, 0, 3), wrong, api.ErrRevision}, {full, 3, span(0, 0, 1), wrong, api.ErrEmpty}, {full, 3, span(0, 0, 1), api.Rev{Author: "Ann"}, api.ErrId}, {full, 3, span(0, 0, 1), api.Rev{Id: 100, Author: "Ann", Time: -1}, api.ErrTime},
		{full, 3, span(0, 0, 3), rev(100), api.ErrDuplicate}, {full, 3, span(0, 0, 3), rev(3), api.ErrDuplicate}, {full, 3, span(0, 0, 3), rev(5), api.ErrLimit}, {full, 3, span(0, 0, 1), rev(5), api.ErrLimit}, {almost, 3, span(0, 0, 3), rev(5), api.ErrEmpty}, {almost, 3, span(0, 1, 1), rev(5), api.ErrEmpty}, {almost, 100, span(0, 0, 1), rev(5), api.ErrEmpty}, {almost, 3, span(0, 0, 1), rev(5), api.ErrMove}, {almost, 3, span(0, 0, 2), rev(5), api.OK}, {almost, 3, span(0, 2, 3), rev(5), api.OK},
		{moved, 3, span(0, 0, 1), rev(6), api.ErrMove}, {moved, 3, span(0, 0, 2), rev(6), api.ErrMove}, {moved, 3, span(0, 3, 6), rev(6), api.ErrMove}, {moved, 3, span(0, 0, 4), rev(6), api.ErrMove}, {moved, 3, span(0, 0, 6), rev(6), api.ErrEmpty}, {moved, 3, span(0, 0, 5), rev(6), api.OK}, {moved, 5, span(0, 5, 7), rev(6), api.ErrEmpty},
		{inRow, 3, span(2, 0, 1), rev(6), api.ErrMove}, {inRow, 3, span(3, 0, 1), rev(6), api.OK}, {inCell, 3, span(2, 0, 1), rev(6), api.ErrMove}, {inCell, 3, span(3, 0, 1), rev(6), api.OK},
		{doc(ins(text("a"), 3, 1), del(text("b"), by(5, 1)), ins(text("c"), 3, 2)), 3, span(0, 0, 1), rev(6), api.OK}, // a move of another revision
	} {
		if got, e := split.Split(c.d, c.rev, c.r, c.next); e != c.e || e != api.OK && !isEmpty(got) || e == api.OK && document.Check(got) != api.OK {
			t.Errorf("%d: Split = %+v, %d; want %d", i, got, e, c.e)
		}
	}
}

func TestP28_2Many(t *testing.T) {
	errors := make(map[api.Errno]int)
	many(12000, 3, func(r *rand.Rand, d api.Document) {
		id, s, next := one(r, d.Revs, rev(1)).Id, someRange(r, d), someRev(r, d)
		if r.IntN(30) == 0 {
			id = 3
		}
		got, e := split.Split(d, id, s, next)
		want, err := naiveSplit(d, id, s, next)
		if show(got) != show(want) || e != err {
			t.Fatalf("Split(%+v, %d, %v, %v) = %+v, %d; want %+v, %d", d, id, s, next, got, e, want, err)
		}
		errors[e]++
	})
	for _, e := range []api.Errno{api.OK, api.ErrNotFound, api.ErrRange, api.ErrRevision, api.ErrId, api.ErrDuplicate, api.ErrEmpty, api.ErrMove} {
		if errors[e] < 30 {
			t.Errorf("there were %d results with the error %d", errors[e], e)
		}
	}
}

func TestP28_3Combine(t *testing.T) {
	three := layers(api.KeyColor, 3, 5, 7)
	two := slices.Concat(layers(api.KeyColor, 5, 3), layers(api.KeyFont, 3, 7, 5, 3))
	for i, c := range []struct {
		d    api.Document
		revs []int
		into int
		want api.Document
	}{
		{doc(ins(text("a"), 3, 0), del(ins(text("b"), 3, 0), by(5, 0)), del(text("c"), by(3, 0), by(5, 0)), text("d")), []int{3, 5}, 5, doc(ins(text("a"), 5, 0), del(text("c"), by(5, 0)), text("d"))},
		{doc(layered(text("a"), three...)), []int{3, 5}, 3, doc(layered(text("a"), api.Layer{Rev: 3, Key: api.KeyColor, Before: 0, Had: true}, three[2]))}, {doc(layered(text("a"), three...)), []int{3, 7}, 3, doc(layered(text("a"), three[0], three[1], api.Layer{Rev: 3, Key: api.KeyColor, Before: 2, Had: true}))}, {doc(layered(text("a"), three...)), []int{3, 5, 7}, 7, doc(layered(text("a"), layers(api.KeyColor, 7)...))},
		{doc(layered(text("a"), two...)), []int{3, 5}, 3, doc(layered(text("a"), api.Layer{Rev: 3, Key: api.KeyColor, Had: true}, api.Layer{Rev: 3, Key: api.KeyFont, Had: true}, two[3], api.Layer{Rev: 3, Key: api.KeyFont, Before: 2, Had: true}))}, {doc(layered(text("a"), layers(api.KeyColor, 3, 3)...)), []int{3}, 3, doc(layered(text("a"), layers(api.KeyColor, 3)...))},
		{doc(del(text("a"), by(3, 0), by(5, 4), by(7, 0))), []int{3, 7}, 7, doc(del(text("a"), by(5, 4), by(7, 0)))}, {doc(del(text("a"), by(3, 0), by(5, 0), by(7, 4))), []int{3, 5}, 3, doc(del(text("a"), by(3, 0), by(7, 4)))}, {doc(del(text("a"), by(3, 4), by(5, 4))), []int{5}, 3, api.Document{}}, {doc(del(text("a"), by(5, 4), by(7, 2)), ins(text("b"), 3, 9)), []int{7}, 3, api.Document{}},
		{doc(del(text("a"), by(3, 4)), del(text("b"), by(3, 2)), ins(text("c"), 3, 4), ins(text("d"), 5, 2), del(text("e"), by(5, 7)), del(ins(text("f"), 7, 1), by(3, 0)), ins(text("g"), 3, 2)), []int{3, 5}, 5, doc(del(text("a"), by(5, 2)), del(text("b"), by(5, 1)), ins(text("c"), 5, 2), ins(text("d"), 5, 3), del(text("e"), by(5, 4)), del(ins(text("f"), 7, 1), by(5, 0)), ins(text("g"), 5, 1))},
		{doc(del(ins(text("a"), 3, 0), by(3, 0)), text("b")), []int{3}, 3, doc(text("b"))}, {doc(text("x"), del(ins(note(1, ins(text("a"), 7, 0)), 3, 0), by(5, 0), by(7, 1)), text("y")), []int{3, 5}, 5, doc(text("xy"))},
	} {
		if document.Check(c.d) != api.OK {
			t.Fatalf("%d: the document has the error %d", i, document.Check(c.d))
		}
		got, e := split.Combine(c.d, c.revs, rev(c.into))
		if len(c.want.Flow) == 0 {
			if !isEmpty(got) || e != api.ErrDuplicate {
				t.Errorf("%d: Combine = %+v, %d", i, got, e)
			}
			continue
		}
		if show(got) != show(c.want) || e != api.OK {
			t.Errorf("%d: Combine = %+v, %d; want %+v", i, got, e, c.want)
		}
	}
	// another author, End, and a table of which nothing is left
	in := row(cell(2, text("a")), cell(4))
	in.Cells[0].Head.Marks = api.Marks{Ins: 3, Dels: []api.Del{by(5, 0)}}
	in.Cells[1].Head.Marks = api.Marks{Ins: 5, Dels: []api.Del{by(5, 0), by(7, 0)}}
	d := doc(text("a"), table(1, in), text("b"))
	d.Revs = append(d.Revs, rev(8))
	d.End.Marks.Layers = layers(api.KeyTop, 3, 5, 7, 5)
	bob := api.Rev{Id: 4, Author: "Bob", Time: 3}
	got, e := split.Combine(d, []int{3, 5}, bob)
	if show(got.Flow) != show(flow(text("ab"))) || show(got.Revs) != show([]api.Rev{bob, rev(7)}) || show(got.End.Marks.Layers) != show([]api.Layer{{Rev: 4, Key: api.KeyTop, Had: true}, {Rev: 7, Key: api.KeyTop, Before: 2, Had: true}, {Rev: 4, Key: api.KeyTop, Before: 3, Had: true}}) || e != api.OK {
		t.Errorf("Combine = %+v, %d", got, e)
	}
}

func TestP28_3Errors(t *testing.T) {
	d := doc(ins(text("a"), 3, 0), ins(text("b"), 5, 0), ins(text("c"), 7, 0))
	on := func(m api.Marks) api.Document {
		in := row(cell(2), cell(3))
		in.Cells[1].Head.Marks = m
		return doc(ins(text("a"), 3, 0), ins(text("b"), 5, 0), ins(text("c"), 7, 0), table(1, in))
	}
	for i, c := range []struct {
		d    api.Document
		revs []int
		into api.Rev
		e    api.Errno
	}{
		{d, nil, api.Rev{}, api.ErrEmpty}, {d, []int{}, api.Rev{}, api.ErrEmpty}, {d, []int{4, 4}, api.Rev{}, api.ErrRevision}, {d, []int{3, 3, 4}, api.Rev{}, api.ErrDuplicate}, {d, []int{5, 3, 3}, api.Rev{}, api.ErrOrder}, {d, []int{5, 4}, api.Rev{}, api.ErrRevision}, {d, []int{5, 3, 4}, api.Rev{}, api.ErrOrder}, {d, []int{0}, api.Rev{}, api.ErrRevision},
		{d, []int{3, 5}, api.Rev{}, api.ErrId}, {d, []int{3, 5}, api.Rev{Id: 7}, api.ErrEmpty}, {d, []int{3, 5}, api.Rev{Id: 7, Author: strings.Repeat("a", 41)}, api.ErrLong}, {d, []int{3, 5}, api.Rev{Id: 7, Author: "\xFF"}, api.ErrUTF8}, {d, []int{3, 5}, api.Rev{Id: 7, Author: "Ann", Time: -1}, api.ErrTime}, {d, []int{3, 5}, rev(7), api.ErrDuplicate}, {d, []int{3}, rev(5), api.ErrDuplicate}, {d, []int{3, 7}, rev(3), api.OK}, {d, []int{3, 7}, rev(7), api.OK}, {d, []int{3, 7}, rev(6), api.OK}, {d, []int{3, 5, 7}, rev(6), api.OK},
		// several deletions
		{on(api.Marks{Dels: []api.Del{by(3, 0), by(5, 1)}}), []int{3, 5}, rev(7), api.ErrDuplicate}, {on(api.Marks{Dels: []api.Del{by(3, 0), by(5, 1)}}), []int{3, 5}, rev(4), api.ErrMove}, {on(api.Marks{Dels: []api.Del{by(3, 1), by(5, 0)}}), []int{3, 5}, rev(4), api.ErrMove}, {on(api.Marks{Dels: []api.Del{by(3, 1), by(5, 1)}}), []int{3, 7}, rev(4), api.OK}, {on(api.Marks{Dels: []api.Del{by(3, 0), by(5, 1), by(7, 0)}}), []int{3, 7}, rev(4), api.OK}, {on(api.Marks{Dels: []api.Del{by(3, 0), by(5, 0)}}), []int{3, 5}, rev(4), api.OK}, {on(api.Marks{Ins: 7, Move: 1, Dels: []api.Del{by(3, 0), by(5, 0)}}), []int{3, 5}, rev(4), api.OK},
		// an insertion and a deletion
		{on(api.Marks{Ins: 3, Move: 1, Dels: []api.Del{by(5, 0)}}), []int{3, 5}, rev(4), api.ErrMove}, {on(api.Marks{Ins: 3, Dels: []api.Del{by(5, 1)}}), []int{3, 5}, rev(4), api.ErrMove}, {on(api.Marks{Ins: 3, Dels: []api.Del{by(5, 0)}}), []int{3, 5}, rev(4), api.OK}, {on(api.Marks{Ins: 3, Dels: []api.Del{by(3, 0), by(5, 1)}}), []int{3}, rev(4), api.OK}, {on(api.Marks{Ins: 3, Move: 1, Dels: []api.Del{by(3, 0)}}), []int{3}, rev(4), api.ErrMove}, {on(api.Marks{Ins: 3, Move: 1, Dels: []api.Del{by(5, 1)}}), []int{3, 7}, rev(4), api.OK}, {on(api.Marks{Ins: 3, Move: 1, Dels: []api.Del{by(5, 1)}}), []int{5, 7}, rev(4), api.OK},
	} {
		if got, e := split.Combine(c.d, c.revs, c.into); e != c.e || e != api.OK && !isEmpty(got) || e == api.OK && document.Check(got) != api.OK {
			t.Errorf("%d: Combine = %+v, %d; want %d", i, got, e, c.e)
		}
	}
}

func TestP28_3Many(t *testing.T) {
	errors := make(map[api.Errno]int)
	renumbered, fewer := 0, 0
	many(12000, 4, func(r *rand.Rand, d api.Document) {
		revs, into := someRevs(r, d), someRev(r, d)
		got, e := split.Combine(d, revs, into)
		want, err := naiveCombine(d, revs, into)
		if show(got) != show(want) || e != err {
			t.Fatalf("Combine(%+v, %v, %v) = %+v, %d; want %+v, %d", d, revs, into, got, e, want, err)
		}
		errors[e]++
		if e == api.OK && len(naiveNumbers(d, revs)) > 1 {
			renumbered++
		}
		if e == api.OK && document.Units(got) < document.Units(d) {
			fewer++
		}
	})
	for _, e := range []api.Errno{api.OK, api.ErrEmpty, api.ErrRevision, api.ErrDuplicate, api.ErrOrder, api.ErrId, api.ErrTime, api.ErrMove} {
		if errors[e] < 30 {
			t.Errorf("there were %d results with the error %d", errors[e], e)
		}
	}
	if renumbered < 100 || fewer < 100 {
		t.Errorf("%d documents have moves, %d have lost units", renumbered, fewer)
	}
}

func TestP28_4Reassign(t *testing.T) {
	d := several()
	bob := api.Rev{Id: 3, Author: "Bob", Time: 2}
	got, e := split.Reassign(d, 3, bob)
	want := document.Normal(d)
	want.Revs = []api.Rev{bob, rev(5), rev(7)}
	if show(got) != show(want) || e != api.OK {
		t.Errorf("Reassign = %+v, %d; want %+v", got, e, want)
	}
	keeps := doc(del(ins(text("a"), 3, 4), by(3, 0), by(5, 1)), layered(text("b"), layers(api.KeyColor, 3, 3, 5)...), del(text("c"), by(3, 4), by(5, 2)), ins(text("d"), 3, 9))
	changed := doc(del(ins(text("a"), 7, 4), by(5, 1), by(7, 0)), layered(text("b"), layers(api.KeyColor, 7, 7, 5)...), del(text("c"), by(5, 2), by(7, 4)), ins(text("d"), 7, 9))
	if got, e := split.Reassign(keeps, 3, rev(7)); show(got) != show(changed) || e != api.OK {
		t.Errorf("Reassign = %+v, %d; want %+v", got, e, changed)
	}
	for i, c := range []struct {
		rev int
		to  api.Rev
		e   api.Errno
	}{{4, api.Rev{}, api.ErrRevision}, {0, rev(3), api.ErrRevision}, {3, api.Rev{Author: "Ann"}, api.ErrId}, {3, api.Rev{Id: 5, Time: -1}, api.ErrEmpty}, {3, api.Rev{Id: 5, Author: "Ann", Time: api.MaxTime + 1}, api.ErrTime}, {3, rev(5), api.ErrDuplicate}, {7, rev(3), api.ErrDuplicate}, {7, rev(7), api.OK}, {7, rev(api.MaxId), api.OK}} {
		if got, e := split.Reassign(d, c.rev, c.to); e != c.e || e != api.OK && !isEmpty(got) {
			t.Errorf("%d: Reassign = %+v, %d; want %d", i, got, e, c.e)
		}
	}
	errors := make(map[api.Errno]int)
	many(4000, 5, func(r *rand.Rand, d api.Document) {
		id, to := one(r, d.Revs, rev(1)).Id, someRev(r, d)
		got, e := split.Reassign(d, id, to)
		want, err := naiveReassign(d, id, to)
		if show(got) != show(want) || e != err {
			t.Fatalf("Reassign(%+v, %d, %v) = %+v, %d; want %+v, %d", d, id, to, got, e, want, err)
		}
		errors[e]++
	})
	for _, e := range []api.Errno{api.OK, api.ErrRevision, api.ErrId, api.ErrEmpty, api.ErrTime, api.ErrDuplicate} {
		if errors[e] < 20 {
			t.Errorf("there were %d results with the error %d", errors[e], e)
		}
	}
}
