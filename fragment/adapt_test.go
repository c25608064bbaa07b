package fragment_test

import (
	"math"
	"math/rand/v2"
	"strings"
	"testing"

	"obelus/api"
	"obelus/document"
	"obelus/edit"
	"obelus/fragment"
	"obelus/samples"
)

// place returns a document with flows of all kinds: the note 1, the cell 3, the note 4 in it with the cell 6, and the cell 8 in a table of the cell 7.
func place() api.Document {
	return doc(text("ab"), note(1, text("n")), table(2, row(cell(3, note(4, table(5, row(cell(6))))), cell(7, table(9, row(cell(8)))))))
}

// bound returns a note, a table with a note, a section mark and texts around them; in a note it loses much.
func bound() fragment.Fragment {
	return fragment.Fragment{Items: flow(text("a"), note(1, para()), text("b"), section(prop(api.KeyTop, 5)), table(2, row(cell(3, text("c"), note(4), text("d")))), note(5), text("e"))}
}

func TestP21_3Flows(t *testing.T) {
	mark := section(prop(api.KeyTop, 5))
	body := flow(text("a"), note(20, para()), text("b"), mark, table(21, row(cell(22, text("c"), note(23), text("d")))), note(24), text("e"))
	inCell := flow(text("a"), note(20, para()), text("b"), para(), table(21, row(cell(22, text("c"), note(23), text("d")))), note(24), text("e"))
	inNote := flow(text("ab"), para(), table(20, row(cell(21, text("cd")))), text("e"))
	for _, c := range []struct {
		flow int
		want []api.Item
	}{{0, body}, {3, inCell}, {7, inCell}, {8, inCell}, {1, inNote}, {4, inNote}, {6, inNote}} {
		got, e := fragment.Adapt(place(), c.flow, bound(), 20)
		if show(got) != show(c.want) || e != api.OK {
			t.Errorf("Adapt to %d = %+v, %d; want %+v", c.flow, got, e, c.want)
		}
		pasted, e := fragment.Paste(place(), api.Pos{Flow: c.flow}, bound(), 20)
		if show(pasted) != show(api.Edit{Kind: api.EditInsert, Flow: c.flow, Items: c.want}) || e != api.OK {
			t.Errorf("Paste to %d = %+v, %d", c.flow, pasted, e)
		}
	}
	pasted, e := fragment.Paste(place(), api.Pos{Flow: 0, At: 4}, bound(), 20)
	if show(pasted) != show(api.Edit{Kind: api.EditInsert, At: 4, Items: body}) || e != api.OK {
		t.Errorf("Paste at 4 = %+v, %d", pasted, e)
	}
}

func TestP21_3Links(t *testing.T) {
	level := func(template string) []api.Level { return []api.Level{{Format: api.Decimal, Template: template}} }
	d := place()
	d.Settings = api.Settings{
		Styles: []api.Style{{Id: 4, Kind: api.CharStyle, Name: "Normal"}, {Id: 5, Kind: api.ParaStyle, Name: "Normal", Props: []api.Prop{prop(api.KeyBold, 1)}}, {Id: 6, Kind: api.ParaStyle, Name: "Code"}, {Id: 7, Kind: api.CharStyle, Name: "Code", Base: 4}, {Id: 8, Kind: api.ParaStyle, Name: "Heading "[:7]}},
		Lists:  []api.List{{Id: 2, Levels: level("%1")}, {Id: 3, Levels: append(level("%1."), level("%2")...)}, {Id: 5, Levels: level("%1.")}, {Id: 9, Levels: level("%1.")}},
	}
	f := fragment.Fragment{
		Styles: []api.Style{{Id: 1, Kind: api.ParaStyle, Name: "Normal"}, {Id: 2, Kind: api.ParaStyle, Name: "Heading"}, {Id: 3, Kind: api.CharStyle, Name: "Code"}, {Id: 6, Kind: api.CharStyle, Name: "Heading"}, {Id: 9, Kind: api.ParaStyle, Name: "Other"}},
		Lists:  []api.List{{Id: 1, Levels: level("%1.")}, {Id: 3, Levels: level("%1)")}, {Id: 5, Levels: append(level("%1."), level("%2")...)}},
	}
	link := func(key, value int) []api.Prop { return []api.Prop{prop(key, value)} }
	for i, c := range []struct{ l, want []api.Item }{
		{flow(para(link(api.KeyParaStyle, 1)...)), flow(para(link(api.KeyParaStyle, 5)...))}, {flow(para(link(api.KeyParaStyle, 2)...)), flow(para(link(api.KeyParaStyle, 8)...))}, {flow(para(link(api.KeyParaStyle, 9)...)), flow(para())}, {flow(para(link(api.KeyParaStyle, 0)...)), flow(para(link(api.KeyParaStyle, 0)...))},
		{flow(text("a", link(api.KeyCharStyle, 3)...)), flow(text("a", link(api.KeyCharStyle, 7)...))}, {flow(text("a", link(api.KeyCharStyle, 6)...)), flow(text("a"))}, {flow(text("a", link(api.KeyCharStyle, 0)...)), flow(text("a", link(api.KeyCharStyle, 0)...))},
		{flow(para(link(api.KeyList, 1)...)), flow(para(link(api.KeyList, 5)...))}, {flow(para(link(api.KeyList, 3)...)), flow(para())}, {flow(para(link(api.KeyList, 5)...)), flow(para(link(api.KeyList, 3)...))}, {flow(para(link(api.KeyList, 0)...)), flow(para(link(api.KeyList, 0)...))},
		{flow(para(prop(api.KeyCharStyle, 3), prop(api.KeyBold, 1), prop(api.KeyParaStyle, 9), prop(api.KeyAlign, 2), prop(api.KeyList, 1), prop(api.KeyLevel, 3))), flow(para(prop(api.KeyCharStyle, 7), prop(api.KeyBold, 1), prop(api.KeyAlign, 2), prop(api.KeyList, 5), prop(api.KeyLevel, 3)))},
		{flow(text("a"), text("b", link(api.KeyCharStyle, 6)...), text("c")), flow(text("abc"))}, {flow(note(1, table(2, row(cell(3, text("b", link(api.KeyCharStyle, 3)...), para(link(api.KeyList, 3)...)))))), flow(note(20, table(21, row(cell(22, text("b", link(api.KeyCharStyle, 7)...), para())))))},
	} {
		f.Items = c.l
		if got, e := fragment.Adapt(d, 0, f, 20); show(got) != show(c.want) || e != api.OK || document.Check(d) != api.OK {
			t.Errorf("%d: Adapt = %+v, %d; want %+v", i, got, e, c.want)
		}
	}
}

func TestP21_3AdaptErrors(t *testing.T) {
	wrong := bound()
	wrong.Items[1].Id = 7
	marked := place()
	marked.Flow[0] = inserted(marked.Flow[0])
	marked.Revs = []api.Rev{{Id: 1, Author: "a"}}
	letters := fragment.Fragment{Items: flow(text("a"))}
	for i, c := range []struct {
		d     api.Document
		flow  int
		f     fragment.Fragment
		first int
		want  api.Errno
	}{
		{place(), 0, wrong, 20, api.ErrId}, {place(), 99, wrong, 20, api.ErrId}, {place(), 99, bound(), 0, api.ErrNotFound}, {place(), 2, bound(), 20, api.ErrNotFound}, {place(), -1, letters, 20, api.ErrNotFound}, {place(), 0, fragment.Fragment{Items: flow(text("a"), text("b"))}, 20, api.ErrFormat}, {place(), 99, fragment.Fragment{Items: flow(comment(1))}, 0, api.ErrFlow},
		{place(), 0, bound(), 0, api.ErrId}, {place(), 0, bound(), -1, api.ErrId}, {place(), 0, bound(), math.MinInt, api.ErrId}, {place(), 0, bound(), math.MaxInt, api.ErrId}, {place(), 0, bound(), api.MaxId - 3, api.ErrId}, {place(), 0, bound(), api.MaxId - 4, api.OK}, {place(), 0, bound(), 1, api.OK},
		// the ids of f count before it is adapted
		{place(), 1, bound(), api.MaxId - 3, api.ErrId}, {place(), 1, fragment.Fragment{Items: flow(note(1), text("a"))}, 0, api.ErrId}, {place(), 1, fragment.Fragment{Items: flow(note(1), text("a"))}, 1, api.OK}, {place(), 0, letters, 0, api.OK}, {place(), 0, letters, math.MinInt, api.OK}, {place(), 0, letters, math.MaxInt, api.OK}, {place(), 0, fragment.Fragment{}, -5, api.OK},
		{marked, 0, bound(), 20, api.OK}, {marked, 4, bound(), 20, api.OK},
	} {
		got, e := fragment.Adapt(c.d, c.flow, c.f, c.first)
		if e != c.want || e != api.OK && len(got) > 0 {
			t.Errorf("%d: Adapt = %+v, %d; want %d", i, got, e, c.want)
		}
		if e == api.OK && show(got) != show(naiveAdapt(c.d, c.flow, c.f, c.first)) {
			t.Errorf("%d: Adapt = %+v", i, got)
		}
	}
}

func TestP21_3PasteErrors(t *testing.T) {
	wrong := bound()
	wrong.Items[1].Id = 7
	marked := place()
	marked.Flow[0] = inserted(marked.Flow[0])
	marked.Revs = []api.Rev{{Id: 1, Author: "a"}}
	letters := fragment.Fragment{Items: flow(text("a"))}
	notes := fragment.Fragment{Items: flow(note(1, text("a")), note(2))}
	deep := fragment.Fragment{Items: flow(table(1, row(cell(2, table(3, row(cell(4, table(5, row(cell(6, table(7, row(cell(8)))))))))))))}
	full := doc(text(strings.Repeat("a", api.MaxUnits)))
	for i, c := range []struct {
		d     api.Document
		p     api.Pos
		f     fragment.Fragment
		first int
		want  api.Errno
	}{
		{marked, api.Pos{Flow: 99}, wrong, 0, api.ErrMark}, {marked, api.Pos{}, letters, 20, api.ErrMark}, {place(), api.Pos{Flow: 99}, wrong, 0, api.ErrId}, {place(), api.Pos{Flow: 99, At: -1}, letters, 0, api.ErrNotFound}, {place(), api.Pos{At: -1}, bound(), 0, api.ErrId}, {place(), api.Pos{Flow: 1, At: -1}, notes, 0, api.ErrId},
		{place(), api.Pos{At: -1}, fragment.Fragment{}, 0, api.ErrEmpty}, {place(), api.Pos{Flow: 1, At: 9}, notes, 20, api.ErrEmpty}, {place(), api.Pos{Flow: 6}, notes, 20, api.ErrEmpty}, {place(), api.Pos{Flow: 3}, notes, 20, api.OK}, {place(), api.Pos{Flow: 99}, fragment.Fragment{}, 20, api.ErrNotFound},
		{place(), api.Pos{At: -1}, letters, 0, api.ErrRange}, {place(), api.Pos{At: 5}, letters, 0, api.ErrRange}, {place(), api.Pos{At: 4}, letters, 0, api.OK}, {place(), api.Pos{At: math.MaxInt}, bound(), 3, api.ErrRange}, {place(), api.Pos{At: 0}, bound(), 3, api.ErrId}, {place(), api.Pos{At: 0}, bound(), 9, api.ErrId}, {place(), api.Pos{At: 0}, bound(), 10, api.OK},
		{place(), api.Pos{Flow: 0}, deep, 20, api.OK}, {place(), api.Pos{Flow: 1}, deep, 20, api.OK}, {place(), api.Pos{Flow: 3}, deep, 20, api.ErrDepth}, {full, api.Pos{At: 3}, letters, 0, api.ErrLimit}, {full, api.Pos{At: -3}, letters, 0, api.ErrRange},
	} {
		got, e := fragment.Paste(c.d, c.p, c.f, c.first)
		if e != c.want || (e == api.OK) == edit.Equal(got, api.Edit{}) {
			t.Errorf("%d: Paste = %+v, %d; want %d", i, got, e, c.want)
		}
	}
}

// TestP21_3Many adapts fragments of many documents to other ones.
func TestP21_3Many(t *testing.T) {
	changed, noted, errors := 0, 0, make(map[api.Errno]int)
	many(5000, 4, func(r *rand.Rand, source api.Document) {
		f, _ := fragment.Copy(source, anyRange(r, source))
		d := other(r)
		flows := document.Flows(d)
		p := api.Pos{Flow: flows[r.IntN(len(flows))]}
		l, _ := document.Flow(d, p.Flow)
		p.At = r.IntN(len(samples.Units(l))+2) - r.IntN(2)
		first := []int{document.Fresh(d), 1, api.MaxId - len(fragment.Ids(f.Items)) + 1, max(document.Fresh(d)-1, 1)}[r.IntN(4)]
		if isNoted(d.Flow, p.Flow, false) {
			noted++
		}
		before := show(d) + show(f)
		got, e := fragment.Adapt(d, p.Flow, f, first)
		want := naiveAdapt(d, p.Flow, f, first)
		if show(got) != show(want) || e != api.OK {
			t.Fatalf("Adapt(%+v, %d, %+v, %d) = %+v, %d; want %+v", d, p.Flow, f, first, got, e, want)
		}
		if show(got) != show(f.Items) && len(fragment.Ids(got)) == 0 {
			changed++
		}
		insertion := api.Edit{Kind: api.EditInsert, Flow: p.Flow, At: p.At, Items: want}
		failure := edit.Check(d, insertion)
		if len(want) == 0 {
			failure = api.ErrEmpty
		}
		if failure != api.OK {
			insertion = api.Edit{}
		}
		pasted, e := fragment.Paste(d, p, f, first)
		if show(pasted) != show(insertion) || e != failure {
			t.Fatalf("Paste(%+v, %+v, %+v, %d) = %+v, %d; want %+v, %d", d, p, f, first, pasted, e, insertion, failure)
		}
		errors[e]++
		if show(d)+show(f) != before || !apart(f, d, got, pasted) {
			t.Fatalf("%s was changed, or shares memory", before)
		}
	})
	if changed < 100 || noted < 200 || errors[api.OK] < 1000 || errors[api.ErrEmpty] < 100 || errors[api.ErrId] < 100 || errors[api.ErrRange] < 100 {
		t.Errorf("%d were changed, %d flows are in notes, the errors %v", changed, noted, errors)
	}
}
