package fragment_test

import (
	"math"
	"math/rand/v2"
	"slices"
	"strings"
	"testing"

	"obelus/api"
	"obelus/document"
	"obelus/edit"
	"obelus/fragment"
	"obelus/run"
	"obelus/samples"
)

func isZero(f fragment.Fragment) bool { return show(f) == show(fragment.Fragment{}) }

// apart reports whether a fragment shares no memory with other values.
func apart(f fragment.Fragment, others ...any) bool {
	return samples.Apart(append(others, whole(f))...)
}

func TestP1AllArguments(t *testing.T) {
	r := rand.New(rand.NewPCG(21, 1))
	wild := []api.Document{{}, doc(text("\xFF"), para()), doc(note(0, note(0, comment(0)))), doc(table(1), table(1, row()), note(1, table(2, row(cell(1)), row()))), {Flow: flow(api.Item{Kind: 99, Flow: flow(text("a"))}), End: api.Head{Marks: api.Marks{Ins: -1}}}}
	cycle := doc(para(prop(api.KeyParaStyle, 1)))
	cycle.Settings.Styles = []api.Style{{Id: 1, Base: 2, Next: 9}, {Id: 2, Base: 1, Next: 2}, {Id: 1}}
	wild = append(wild, cycle)
	for range 150 {
		wild = append(wild, samples.Wrong(r.IntN), samples.Document(r.IntN), samples.Plain(r.IntN))
	}
	numbers := append(samples.Numbers(), api.MaxId, 4002, 8003)
	number := func() int { return numbers[r.IntN(len(numbers))] }
	done := make(map[bool]int)
	for i, d := range wild {
		for range 30 {
			source := wild[r.IntN(len(wild))]
			f := fragment.Fragment{Items: source.Flow, Styles: source.Settings.Styles, Lists: source.Settings.Lists}
			e := fragment.Check(f)
			if s := fragment.Text(f); e != api.OK && s != "" {
				t.Fatalf("%d: Text = %q, %d", i, s, e)
			}
			rg := api.Range{Flow: number(), From: number(), To: number()}
			if g, e := fragment.Copy(d, rg); e != api.OK && !isZero(g) {
				t.Fatalf("%d: Copy = %+v, %d", i, g, e)
			}
			if g, rest, e := fragment.Cut(d, rg); e != api.OK && (!isZero(g) || show(rest) != show(api.Document{})) {
				t.Fatalf("%d: Cut = %+v, %d", i, g, e)
			}
			l, g := fragment.Adapt(d, number(), f, number())
			if e != api.OK && g != e || g != api.OK && len(l) > 0 {
				t.Fatalf("%d: Adapt = %+v, %d; Check = %d", i, l, g, e)
			}
			done[g == api.OK]++
			if x, e := fragment.Paste(d, api.Pos{Flow: number(), At: number()}, f, number()); e != api.OK && !edit.Equal(x, api.Edit{}) {
				t.Fatalf("%d: Paste = %+v, %d", i, x, e)
			}
			fragment.Ids(source.Flow)
			fragment.Renew(source.Flow, number())
			fragment.Strip(source.Flow)
			fragment.Equal(f, fragment.Fragment{Items: d.Flow})
		}
	}
	if done[true] < 10 || done[false] < 100 {
		t.Errorf("%v were adapted", done)
	}
}

// TestP1Deep nests flows as deeply as the document permits.
func TestP1Deep(t *testing.T) {
	deep := 1 << 16
	tables, notes := samples.Deep(deep)
	for i, l := range [][]api.Item{tables, notes} {
		want := deep * (2 - i)
		if ids := fragment.Ids(l); len(ids) != want || ids[0] > want || slices.Max(ids) != want {
			t.Errorf("%d: %d ids", i, len(ids))
		}
		renewed, next := fragment.Renew(l, 5)
		if next != want+5 || !slices.IsSorted(fragment.Ids(renewed)) || !run.Equal(fragment.Strip(l), l) {
			t.Errorf("%d: Renew or Strip", i)
		}
		f := fragment.Fragment{Items: renewed}
		if e := fragment.Check(f); e != []api.Errno{api.ErrDepth, api.ErrFlow}[i] || fragment.Text(f) != "" {
			t.Errorf("%d: Check = %d", i, e)
		}
		if got, rest, e := fragment.Cut(doc(l...), api.Range{From: 1, To: 2}); e != api.OK || len(got.Items) != 1 || len(rest.Flow) != 2 {
			t.Errorf("%d: Cut = %d", i, e)
		}
		if got, e := fragment.Adapt(doc(l...), 2-i, fragment.Fragment{Items: flow(note(1))}, 9); e != api.OK || len(got) != 1-i { // the innermost flow
			t.Errorf("%d: Adapt = %+v, %d", i, got, e)
		}
		if !fragment.Equal(f, f) {
			t.Errorf("%d: Equal", i)
		}
	}
}

// base returns a valid fragment with items of all kinds, styles of both kinds and two lists.
func base() fragment.Fragment {
	return fragment.Fragment{
		Items: flow(text("ab", prop(api.KeyCharStyle, 4)), bold("c"), note(1, text("n")), para(prop(api.KeyParaStyle, 2), prop(api.KeyList, 3)), samples.Field("page"), samples.Break(api.Tab),
			table(2, row(cell(3, para(prop(api.KeyParaStyle, 0))), cell(4, note(5))), row(cell(6, table(7, row(cell(8)))))), section(), note(9)),
		Styles: []api.Style{{Id: 1, Kind: api.ParaStyle, Name: "Normal", Next: 2}, {Id: 2, Kind: api.ParaStyle, Name: "Heading", Base: 1}, {Id: 4, Kind: api.CharStyle, Name: "Code"}},
		Lists:  []api.List{{Id: 3, Levels: []api.Level{{Format: api.Decimal, Template: "%1"}}}, {Id: 8, Levels: []api.Level{{Format: api.Bullet, Template: "-"}}}},
	}
}

// step makes a fragment wrong in one place.
type step struct {
	what string
	want api.Errno
	do   func(f *fragment.Fragment)
}

// wrongSteps returns steps in the order in which their errors are found.
func wrongSteps() []step {
	return []step{
		{"a style without a name", api.ErrName, func(f *fragment.Fragment) { f.Styles[0].Name = "" }},
		{"lists in the wrong order", api.ErrOrder, func(f *fragment.Fragment) { slices.Reverse(f.Lists) }},
		{"an unknown style", api.ErrStyle, func(f *fragment.Fragment) { f.Items[0].Head.Props[0].Value = 2 }},
		{"a mark in a note", api.ErrRevision, func(f *fragment.Fragment) { f.Items[2].Flow = append(f.Items[2].Flow, inserted(para())) }},
		{"an unknown list", api.ErrList, func(f *fragment.Fragment) { f.Items[3].Head.Props[1].Value = 4 }},
		{"a note in a note", api.ErrFlow, func(f *fragment.Fragment) { f.Items[8].Flow = flow(note(10)) }},
		{"an anchor in a cell", api.ErrFlow, func(f *fragment.Fragment) {
			f.Items[6].Rows[1].Cells[0].Flow[0].Rows[0].Cells[0].Flow = flow(comment(1))
		}},
		{"exchanged ids", api.ErrId, func(f *fragment.Fragment) { f.Items[6].Rows[0].Cells[0].Id, f.Items[6].Id = 2, 3 }},
		{"divided texts", api.ErrFormat, func(f *fragment.Fragment) {
			f.Items[6].Rows[0].Cells[1].Flow[0].Flow = flow(text("a"), text("b"))
		}},
	}
}

func TestP21_1Order(t *testing.T) {
	check := func(what string, want api.Errno, steps ...step) {
		t.Helper()
		f := base()
		for _, s := range steps {
			s.do(&f)
		}
		if e := fragment.Check(f); e != want {
			t.Errorf("%s: Check = %d; want %d", what, e, want)
		}
		if s := fragment.Text(f); (s != "") != (want == api.OK) {
			t.Errorf("%s: Text = %q", what, s)
		}
	}
	check("nothing", api.OK)
	all := wrongSteps()
	for i, first := range all {
		check(first.what, first.want, first)
		for _, second := range all[i+1:] {
			check(first.what+" and "+second.what, first.want, second, first)
		}
	}
}

func TestP21_1Check(t *testing.T) {
	long := text(strings.Repeat("a", api.MaxUnits))
	for i, c := range []struct {
		l    []api.Item
		want api.Errno
	}{
		{nil, api.OK}, {flow(para(), section()), api.OK}, {flow(note(1), note(2)), api.OK}, {flow(note(2), note(1)), api.ErrId}, {flow(note(2)), api.ErrId}, {flow(note(1), note(3)), api.ErrId}, {flow(note(0)), api.ErrId}, {flow(note(1), note(1)), api.ErrDuplicate}, {flow(table(1, row(cell(2), cell(3)), row(cell(4)))), api.OK}, {flow(table(3, row(cell(1), cell(2)))), api.ErrId}, {flow(table(1, row(cell(3), cell(2)))), api.ErrId},
		{flow(comment(1)), api.ErrFlow}, {flow(note(1, comment(1))), api.ErrFlow}, {flow(note(2, comment(1))), api.ErrFlow}, {flow(samples.Start(1, "a"), samples.Anchor(api.BookmarkEnd, 1)), api.ErrFlow}, {flow(table(1, row(cell(2, note(3, comment(4)))))), api.ErrFlow}, {flow(samples.Start(1, "")), api.ErrName},
		{flow(text("a"), text("b")), api.ErrFormat}, {flow(text("a"), note(2), text("a"), text("b")), api.ErrId}, {flow(text("a"), bold("b")), api.OK}, {flow(note(1, text("a"), text("b"))), api.ErrFormat}, {flow(table(1, row(cell(2, bold("a"), bold("b"))))), api.ErrFormat}, {flow(text("")), api.ErrEmpty}, {flow(text("\xFF")), api.ErrUTF8}, {flow(table(1)), api.ErrEmpty}, {flow(api.Item{}), api.ErrKind},
		{flow(inserted(text("a"))), api.ErrRevision}, {flow(marked(note(2, comment(1)))), api.ErrRevision}, {flow(text("a", prop(api.KeyCharStyle, 1))), api.ErrStyle}, {flow(para(prop(api.KeyList, 1))), api.ErrList}, {flow(text("a", prop(api.KeyCharStyle, 0)), para(prop(api.KeyParaStyle, 0), prop(api.KeyList, 0))), api.OK}, {flow(long), api.OK}, {flow(long, para()), api.ErrLimit},
	} {
		f := fragment.Fragment{Items: c.l}
		if e := fragment.Check(f); e != c.want || naiveCheck(f) != c.want {
			t.Errorf("%d: Check = %d or %d; want %d", i, e, naiveCheck(f), c.want)
		}
	}
	onlyMove := para()
	onlyMove.Head.Marks.Move = 1
	if e := fragment.Check(fragment.Fragment{Items: flow(onlyMove)}); e != api.ErrMark {
		t.Errorf("a number of a move without an insertion: %d", e)
	}
}

func TestP21_1Many(t *testing.T) {
	errors := make(map[api.Errno]int)
	many(2500, 2, func(r *rand.Rand, d api.Document) {
		f := fragment.Fragment{Items: d.Flow, Styles: d.Settings.Styles, Lists: d.Settings.Lists}
		if r.IntN(4) > 0 {
			f.Items = without(api.Anchor, f.Items)
		}
		if r.IntN(4) > 0 {
			f.Items = naiveRenew(f.Items, 1)
		}
		if r.IntN(4) > 0 {
			f.Items = run.Normal(f.Items)
		}
		if r.IntN(10) == 0 && len(f.Styles) > 0 {
			f.Styles = f.Styles[1:]
		}
		before := show(f)
		e := fragment.Check(f)
		if want := naiveCheck(f); e != want {
			t.Fatalf("Check(%+v) = %d; want %d", f, e, want)
		}
		if show(f) != before {
			t.Fatalf("%s was changed", before)
		}
		errors[e]++
	})
	for _, e := range []api.Errno{api.OK, api.ErrFlow, api.ErrId, api.ErrFormat} {
		if errors[e] < 100 {
			t.Errorf("the errors %v", errors)
		}
	}
}

func TestP21_2Copy(t *testing.T) {
	styles, lists := base().Styles, base().Lists
	d := doc(text("ab"), note(7, text("n"), comment(2)), para(prop(api.KeyParaStyle, 2), prop(api.KeyList, 8)), comment(1), text("c", prop(api.KeyCharStyle, 4)), table(5, row(cell(6, text("x"), comment(1), text("y"), section()), cell(3))))
	d.Settings = api.Settings{Styles: styles, Lists: lists, Vars: []api.Var{{Name: "v"}}}
	for i, c := range []struct {
		r    api.Range
		want fragment.Fragment
	}{
		{api.Range{From: 1, To: 4}, fragment.Fragment{Items: flow(text("b"), note(1, text("n")), para(prop(api.KeyParaStyle, 2), prop(api.KeyList, 8))), Styles: styles[:2], Lists: lists[1:]}}, {api.Range{From: 2, To: 3}, fragment.Fragment{Items: flow(note(1, text("n")))}}, {api.Range{From: 4, To: 5}, fragment.Fragment{}}, {api.Range{From: 3, To: 3}, fragment.Fragment{}}, {api.Range{}, fragment.Fragment{}},
		{api.Range{From: 4, To: 6}, fragment.Fragment{Items: flow(text("c", prop(api.KeyCharStyle, 4))), Styles: styles[2:]}}, {api.Range{From: 2, To: 7}, fragment.Fragment{Items: flow(note(1, text("n")), para(prop(api.KeyParaStyle, 2), prop(api.KeyList, 8)), text("c", prop(api.KeyCharStyle, 4)), table(2, row(cell(3, text("xy"), section()), cell(4)))), Styles: styles, Lists: lists[1:]}},
		{api.Range{Flow: 6, From: 0, To: 4}, fragment.Fragment{Items: flow(text("xy"), section())}}, {api.Range{Flow: 7, From: 0, To: 1}, fragment.Fragment{Items: flow(text("n"))}}, {api.Range{Flow: 3}, fragment.Fragment{}},
	} {
		if got, e := fragment.Copy(d, c.r); show(got) != show(c.want) || e != api.OK {
			t.Errorf("%d: Copy = %+v, %d; want %+v", i, got, e, c.want)
		}
	}
	parts := doc(text("a"), text("b"), comment(1), text("c"))
	if got, e := fragment.Copy(parts, api.Range{From: 1, To: 4}); show(got.Items) != show(flow(text("bc"))) || e != api.OK {
		t.Errorf("Copy = %+v, %d", got, e)
	}
}

// TestP21_2Styles copies paragraphs and texts with one style, of which others are needed.
func TestP21_2Styles(t *testing.T) {
	style := func(id, kind, base, next int) api.Style {
		return api.Style{Id: id, Kind: kind, Name: string(rune('a' + id)), Base: base, Next: next}
	}
	d := doc()
	d.Settings.Styles = []api.Style{style(1, api.ParaStyle, 0, 0), style(2, api.ParaStyle, 1, 0), style(3, api.ParaStyle, 2, 5), style(4, api.ParaStyle, 0, 4), style(5, api.ParaStyle, 6, 7), style(6, api.ParaStyle, 0, 0), style(7, api.ParaStyle, 0, 5), style(8, api.CharStyle, 9, 0), style(9, api.CharStyle, 0, 0)}
	d.Settings.Styles[5].Props = []api.Prop{prop(api.KeyList, 1)} // the lists of styles are not those of items
	d.Settings.Lists = base().Lists[:1]
	d.Settings.Lists[0].Id = 1
	for i, want := range [][]int{nil, {1}, {1, 2}, {1, 2, 3, 5, 6, 7}, {4}, {5, 6, 7}, {6}, {5, 6, 7}, {8, 9}, {9}} {
		d.Flow = flow(para(prop(api.KeyParaStyle, i)), note(1, para()))
		if i >= 8 {
			d.Flow = flow(note(1, table(2, row(cell(3, text("a", prop(api.KeyCharStyle, i)))))), note(4))
		}
		got, e := fragment.Copy(d, api.Range{From: 0, To: 1})
		var ids []int
		for _, s := range got.Styles {
			ids = append(ids, s.Id)
		}
		if !slices.Equal(ids, want) || len(got.Lists) > 0 || e != api.OK || document.Check(d) != api.OK {
			t.Errorf("%d: the styles %v and the lists %v, %d; want %v", i, ids, got.Lists, e, want)
		}
	}
}

func TestP21_2Errors(t *testing.T) {
	plain := doc(text("ab"), note(7, text("n")), table(5, row(cell(6))))
	tracked := doc(inserted(text("a")))
	tracked.Revs = []api.Rev{{Id: 1, Author: "a"}}
	layered := doc(text("a"))
	layered.Revs = tracked.Revs
	layered.End.Marks.Layers = []api.Layer{{Rev: 1, Key: api.KeyTop}}
	unused := doc(text("a"))
	unused.Revs = tracked.Revs
	for i, c := range []struct {
		d    api.Document
		r    api.Range
		want api.Errno
	}{
		{tracked, api.Range{From: 0, To: 1}, api.ErrMark}, {layered, api.Range{From: 0, To: 1}, api.ErrMark}, {tracked, api.Range{Flow: 9, From: 5}, api.ErrMark}, {unused, api.Range{From: 0, To: 1}, api.OK}, {plain, api.Range{Flow: 9}, api.ErrNotFound}, {plain, api.Range{Flow: 5}, api.ErrNotFound}, {plain, api.Range{Flow: -1, From: 3}, api.ErrNotFound},
		{plain, api.Range{From: -1, To: 1}, api.ErrRange}, {plain, api.Range{From: 2, To: 1}, api.ErrRange}, {plain, api.Range{From: 0, To: 5}, api.ErrRange}, {plain, api.Range{From: 5, To: 5}, api.ErrRange}, {plain, api.Range{Flow: 7, From: 0, To: 2}, api.ErrRange}, {plain, api.Range{From: math.MinInt, To: math.MaxInt}, api.ErrRange}, {plain, api.Range{From: math.MaxInt, To: math.MaxInt}, api.ErrRange},
		{plain, api.Range{From: 4, To: 4}, api.OK}, {plain, api.Range{From: 0, To: 4}, api.OK},
	} {
		if got, e := fragment.Copy(c.d, c.r); e != c.want || e != api.OK && !isZero(got) {
			t.Errorf("%d: Copy = %+v, %d; want %d", i, got, e, c.want)
		}
		if got, rest, e := fragment.Cut(c.d, c.r); e != c.want || e != api.OK && (!isZero(got) || show(rest) != show(api.Document{})) {
			t.Errorf("%d: Cut = %+v, %+v, %d; want %d", i, got, rest, e, c.want)
		}
	}
}

// TestP21_2Many copies and cuts ranges of many documents.
func TestP21_2Many(t *testing.T) {
	withStyles, withLists, withIds, empty := 0, 0, 0, 0
	many(4000, 3, func(r *rand.Rand, d api.Document) {
		rg := anyRange(r, d)
		before := show(d)
		got, e := fragment.Copy(d, rg)
		want := naiveCopy(d, rg)
		if show(got) != show(want) || e != api.OK {
			t.Fatalf("Copy(%+v, %+v) = %+v, %d; want %+v", d, rg, got, e, want)
		}
		cut, rest, e := fragment.Cut(d, rg)
		left := document.Normal(d)
		if rg.From < rg.To {
			left, _ = edit.Apply(d, api.Edit{Kind: api.EditDelete, Flow: rg.Flow, At: rg.From, Count: rg.To - rg.From})
		} else {
			empty++
		}
		if show(cut) != show(want) || show(rest) != show(left) || e != api.OK {
			t.Fatalf("Cut(%+v, %+v) = %+v, %+v, %d", d, rg, cut, rest, e)
		}
		if show(d) != before || !apart(got, d) || !apart(cut, d, rest) {
			t.Fatalf("%s was changed, or shares memory", before)
		}
		withStyles += min(len(got.Styles), 1)
		withLists += min(len(got.Lists), 1)
		withIds += min(len(fragment.Ids(got.Items)), 1)
	})
	if withStyles < 200 || withLists < 50 || withIds < 500 || empty < 100 {
		t.Errorf("%d fragments have styles, %d lists, %d ids; %d ranges are empty", withStyles, withLists, withIds, empty)
	}
}
