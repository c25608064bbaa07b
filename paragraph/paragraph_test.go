package paragraph_test

import (
	"fmt"
	"math/rand/v2"
	"slices"
	"strings"
	"testing"

	"obelus/api"
	"obelus/document"
	"obelus/paragraph"
	"obelus/run"
	"obelus/samples"
	"obelus/stylesheet"
)

func text(s string, props ...api.Prop) api.Item {
	return api.Item{Kind: api.Text, Text: s, Head: api.Head{Props: props}}
}
func para(props ...api.Prop) api.Item {
	return api.Item{Kind: api.Para, Head: api.Head{Props: props}}
}
func section(props ...api.Prop) api.Item {
	return api.Item{Kind: api.Section, Head: api.Head{Props: props}}
}
func anchor() api.Item { return api.Item{Kind: api.Anchor, Code: api.CommentStart, Id: 1} }
func note(id int, l ...api.Item) api.Item {
	return api.Item{Kind: api.Note, Code: api.Footnote, Id: id, Flow: l}
}
func table(id int, cells ...api.Cell) api.Item {
	return api.Item{Kind: api.Table, Id: id, Rows: []api.Row{{Cells: cells}}}
}
func cell(id int, l ...api.Item) api.Cell { return api.Cell{Id: id, Flow: l} }
func flow(l ...api.Item) []api.Item       { return l }
func prop(key, value int) api.Prop        { return api.Prop{Key: key, Value: value} }

func block(kind, from, to int, mark bool) paragraph.Block {
	return paragraph.Block{Kind: kind, From: from, To: to, Mark: mark}
}

// show returns a string that is equal for equal values, where nil and empty slices are equal.
func show(v any) string { return fmt.Sprintf("%+v", v) }

// naiveBlocks finds the blocks unit by unit.
func naiveBlocks(l []api.Item) []paragraph.Block {
	units := samples.Units(l)
	var found []paragraph.Block
	begin := 0
	rest := func(end int) { // the units in front of a table, a section mark or the end
		if begin < end {
			kind := paragraph.Loose
			for _, u := range units[begin:end] {
				if u.Kind != api.Anchor {
					kind = paragraph.Paragraph
				}
			}
			found = append(found, block(kind, begin, end, false))
		}
	}
	for i, u := range units {
		switch u.Kind {
		case api.Para:
			found = append(found, block(paragraph.Paragraph, begin, i+1, true))
			begin = i + 1
		case api.Table:
			rest(i)
			found = append(found, block(paragraph.Table, i, i+1, false))
			begin = i + 1
		case api.Section:
			rest(i)
			found = append(found, block(paragraph.Section, i, i+1, false))
			begin = i + 1
		}
	}
	rest(len(units))
	return found
}

// alphabet are items of which flows are made.
func alphabet() []api.Item {
	return flow(text("a"), text("\u00e9b", prop(api.KeyBold, 1)), text(""), para(prop(api.KeyAlign, 1)), table(1, cell(2)), section(prop(api.KeyTop, 5)), anchor(), note(3, para()), api.Item{Kind: 9}, api.Item{Kind: api.Field, Text: "a"})
}

// allFlows calls a function for each flow of at most four items.
func allFlows(f func(l []api.Item)) {
	items := alphabet()
	var extend func(l []api.Item)
	extend = func(l []api.Item) {
		f(run.Clone(l))
		if len(l) < 4 {
			for _, item := range items {
				extend(append(slices.Clone(l), item))
			}
		}
	}
	extend(nil)
}

// wrongFlows returns flows that are not divisible.
func wrongFlows() [][]api.Item {
	return [][]api.Item{flow(text("\xFF")), flow(para(), anchor(), text("a\xC3"), para()), flow(text("\xC3"), text("\xA9")), flow(table(1), text("\xED\xA0\x80"))}
}

func many(count int, seed uint64, f func(r *rand.Rand, d api.Document)) {
	r := rand.New(rand.NewPCG(14, seed))
	for range count {
		f(r, samples.Document(r.IntN))
	}
}

// flowsOf returns the flows of a document by their ids.
func flowsOf(d api.Document) map[int][]api.Item {
	flows := make(map[int][]api.Item)
	for _, id := range document.Flows(d) {
		flows[id], _ = document.Flow(d, id)
	}
	return flows
}

func TestP1AllArguments(t *testing.T) {
	wild := flow(api.Item{}, api.Item{Kind: -1}, api.Item{Kind: api.Table}, api.Item{Kind: 10, Flow: flow(para())}, note(-1, note(0, text("\xFF"), table(5))), text("a"), text(""), api.Item{Kind: api.Section, Head: api.Head{Props: []api.Prop{prop(99, 1), prop(-1, 1)}}})
	flows := append(wrongFlows(), nil, wild, flow(text("")), flow(para(prop(99, 99))))
	for _, l := range flows {
		d := api.Document{Flow: l, End: api.Head{Props: []api.Prop{prop(-1, -1)}}, Settings: api.Settings{Styles: make([]api.Style, 2)}}
		paragraph.Blocks(l)
		paragraph.Sections(d)
		paragraph.All(d)
		for _, a := range samples.Numbers() {
			if b, e := paragraph.At(l, a); e != api.OK && b != (paragraph.Block{}) {
				t.Errorf("At(%+v, %d) = %+v, %d", l, a, b, e)
			}
			if i, e := paragraph.SectionAt(d, a); e != api.OK && i != 0 {
				t.Errorf("SectionAt(%+v, %d) = %d, %d", l, a, i, e)
			}
			for _, b := range samples.Numbers() {
				one := block(b, a, b, a < b)
				if inner, e := paragraph.Inner(l, one); e != api.OK && len(inner) > 0 {
					t.Errorf("Inner(%+v, %+v) = %+v, %d", l, one, inner, e)
				}
				if own, e := paragraph.Own(l, one); e != api.OK && len(own) > 0 {
					t.Errorf("Own(%+v, %+v) = %+v, %d", l, one, own, e)
				}
				if s, e := paragraph.Text(l, one); e != api.OK && s != "" {
					t.Errorf("Text(%+v, %+v) = %q, %d", l, one, s, e)
				}
				p := api.Pos{Flow: a, At: b}
				if props, e := paragraph.Para(d, p); e != api.OK && len(props) > 0 {
					t.Errorf("Para(%+v, %+v) = %+v, %d", l, p, props, e)
				}
				if props, e := paragraph.Char(d, p); e != api.OK && len(props) > 0 {
					t.Errorf("Char(%+v, %+v) = %+v, %d", l, p, props, e)
				}
			}
		}
	}
}

// TestP1Deep nests flows as deeply as the document permits.
func TestP1Deep(t *testing.T) {
	var tables, notes []api.Item
	deep := 1 << 16
	for i := range deep {
		tables = flow(text("a"), table(2*i+1, cell(2*i+2, tables...)), para())
		notes = flow(note(i+1, notes...), anchor(), para())
	}
	if all := paragraph.All(api.Document{Flow: tables}); len(all) != 2*deep || all[2*deep-1].Flow != 0 {
		t.Errorf("%d paragraphs", len(all))
	}
	if all := paragraph.All(api.Document{Flow: notes}); len(all) != deep || all[deep-1].Flow != 2 {
		t.Errorf("%d paragraphs", len(all))
	}
	if e, err := paragraph.Char(api.Document{Flow: notes}, api.Pos{Flow: 1}); len(e) > 0 || err != api.ErrRange {
		t.Errorf("Char = %+v, %d", e, err)
	}
}

func TestP14_1Examples(t *testing.T) {
	for i, c := range []struct {
		l    []api.Item
		want []paragraph.Block
	}{
		{flow(text("ab"), para(), text("c"), table(1, cell(2)), anchor(), table(3, cell(4)), text("d")), []paragraph.Block{
			block(paragraph.Paragraph, 0, 3, true), block(paragraph.Paragraph, 3, 4, false), block(paragraph.Table, 4, 5, false), block(paragraph.Loose, 5, 6, false), block(paragraph.Table, 6, 7, false), block(paragraph.Paragraph, 7, 8, false),
		}},
		{flow(para()), []paragraph.Block{block(paragraph.Paragraph, 0, 1, true)}}, {nil, nil}, {flow(text("")), nil},
		{flow(anchor(), para(), anchor()), []paragraph.Block{block(paragraph.Paragraph, 0, 2, true), block(paragraph.Loose, 2, 3, false)}},
		{flow(anchor(), text(""), section()), []paragraph.Block{block(paragraph.Loose, 0, 1, false), block(paragraph.Section, 1, 2, false)}},
		{flow(anchor(), text("a"), anchor(), section()), []paragraph.Block{block(paragraph.Paragraph, 0, 3, false), block(paragraph.Section, 3, 4, false)}},
		{flow(section(), text(""), para()), []paragraph.Block{block(paragraph.Section, 0, 1, false), block(paragraph.Paragraph, 1, 2, true)}},
		{flow(api.Item{Kind: api.Break, Code: api.PageBreak}, note(1, para()), api.Item{Kind: 9}, table(1)), []paragraph.Block{block(paragraph.Paragraph, 0, 3, false), block(paragraph.Table, 3, 4, false)}},
	} {
		if got, e := paragraph.Blocks(c.l); !slices.Equal(got, c.want) || e != api.OK {
			t.Errorf("%d: Blocks(%+v) = %+v, %d; want %+v", i, c.l, got, e, c.want)
		}
	}
}

func TestP14_1BlocksAndAt(t *testing.T) {
	allFlows(func(l []api.Item) {
		want := naiveBlocks(l)
		got, e := paragraph.Blocks(l)
		if !slices.Equal(got, want) || e != api.OK {
			t.Fatalf("Blocks(%+v) = %+v, %d; want %+v", l, got, e, want)
		}
		length := len(samples.Units(l))
		for unit := -1; unit <= length; unit++ {
			i := slices.IndexFunc(want, func(b paragraph.Block) bool { return b.From <= unit && unit < b.To })
			b, e := paragraph.At(l, unit)
			if i >= 0 && (b != want[i] || e != api.OK) || i < 0 && (b != paragraph.Block{} || e != api.ErrRange) {
				t.Fatalf("At(%+v, %d) = %+v, %d", l, unit, b, e)
			}
		}
	})
	for _, l := range wrongFlows() {
		if got, e := paragraph.Blocks(l); len(got) > 0 || e != api.ErrUTF8 {
			t.Errorf("Blocks(%+v) = %+v, %d", l, got, e)
		}
		for _, unit := range []int{-1, 0, 1, 99} {
			if b, e := paragraph.At(l, unit); b != (paragraph.Block{}) || e != api.ErrUTF8 {
				t.Errorf("At(%+v, %d) = %+v, %d", l, unit, b, e)
			}
		}
	}
	if got, e := paragraph.Blocks(flow(note(1, text("\xFF")), para())); len(got) != 1 || e != api.OK {
		t.Errorf("Blocks with an invalid text in a note = %+v, %d", got, e)
	}
}

// checkBlock checks Inner, Text and Own of a block.
func checkBlock(t *testing.T, l []api.Item, b paragraph.Block) {
	t.Helper()
	units := samples.Units(l)[b.From:b.To]
	var own []api.Prop
	if b.Mark {
		own = units[len(units)-1].Head.Props
		units = units[:len(units)-1]
	}
	inner, e := paragraph.Inner(l, b)
	if show(inner) != show(run.Normal(units)) || e != api.OK || !samples.Apart(l, inner) {
		t.Fatalf("Inner(%+v, %+v) = %+v, %d", l, b, inner, e)
	}
	if s, e := paragraph.Text(l, b); s != run.Text(units) || e != api.OK {
		t.Fatalf("Text(%+v, %+v) = %q, %d", l, b, s, e)
	}
	if props, e := paragraph.Own(l, b); show(props) != show(own) || e != api.OK || !samples.Apart(l, props) {
		t.Fatalf("Own(%+v, %+v) = %+v, %d", l, b, props, e)
	}
}

// checkNoBlock checks the errors of Inner, Text and Own.
func checkNoBlock(t *testing.T, l []api.Item, b paragraph.Block, want api.Errno) {
	t.Helper()
	inner, e := paragraph.Inner(l, b)
	props, f := paragraph.Own(l, b)
	s, g := paragraph.Text(l, b)
	if len(inner) > 0 || len(props) > 0 || s != "" || e != want || f != want || g != want {
		t.Fatalf("the block %+v of %+v: %+v, %d; %+v, %d; %q, %d; want %d", b, l, inner, e, props, f, s, g, want)
	}
}

func TestP14_2Content(t *testing.T) {
	l := flow(text("ab", prop(api.KeyBold, 1)), text("c"), para(prop(api.KeyBold, 0), prop(api.KeyAlign, 2)), text("d"))
	if s, e := paragraph.Text(l, block(paragraph.Paragraph, 0, 4, true)); s != "abc" || e != api.OK {
		t.Errorf("Text = %q, %d", s, e)
	}
	if props, e := paragraph.Own(l, block(paragraph.Paragraph, 0, 4, true)); show(props) != show(l[2].Head.Props) || e != api.OK {
		t.Errorf("Own = %+v, %d", props, e)
	}
	if props, e := paragraph.Own(l, block(paragraph.Paragraph, 4, 5, false)); len(props) > 0 || e != api.OK {
		t.Errorf("Own of a paragraph without a mark = %+v, %d", props, e)
	}
	allFlows(func(l []api.Item) {
		for _, b := range naiveBlocks(l) {
			checkBlock(t, l, b)
			for _, other := range []paragraph.Block{
				block(b.Kind%4+1, b.From, b.To, b.Mark), block(b.Kind, b.From+1, b.To, b.Mark), block(b.Kind, b.From, b.To+1, b.Mark), block(b.Kind, b.From, b.To, !b.Mark), {},
			} {
				checkNoBlock(t, l, other, api.ErrNotFound)
			}
		}
	})
	many(300, 1, func(r *rand.Rand, d api.Document) {
		for _, l := range flowsOf(d) {
			before := show(l[:cap(l)])
			for _, b := range naiveBlocks(l) {
				checkBlock(t, l, b)
			}
			if show(l[:cap(l)]) != before {
				t.Fatalf("%s was changed to %s", before, show(l[:cap(l)]))
			}
		}
	})
	checkNoBlock(t, nil, paragraph.Block{}, api.ErrNotFound)
	checkNoBlock(t, flow(text("")), block(paragraph.Paragraph, 0, 0, false), api.ErrNotFound)
	for _, l := range wrongFlows() {
		checkNoBlock(t, l, block(paragraph.Paragraph, 0, 1, true), api.ErrUTF8)
		checkNoBlock(t, l, paragraph.Block{}, api.ErrUTF8)
	}
}

func TestP14_3Properties(t *testing.T) {
	own := []api.Prop{prop(api.KeyItalic, 1), prop(api.KeyParaStyle, 2), prop(api.KeyAlign, 1)}
	d := api.Document{
		Flow: flow(text("ab", prop(api.KeyCharStyle, 3), prop(api.KeyBold, 0)), anchor(), note(7, text("n")), para(own...), text("c"), table(8, cell(9, text("x"), para(prop(api.KeyParaStyle, 1)))), anchor(), section()),
		Settings: api.Settings{Styles: []api.Style{
			{Id: 1, Kind: api.ParaStyle, Name: "Normal", Props: []api.Prop{prop(api.KeySize, 24), prop(api.KeyAlign, 2), prop(api.KeyAfter, 9)}},
			{Id: 2, Kind: api.ParaStyle, Name: "Heading", Base: 1, Props: []api.Prop{prop(api.KeyBold, 1)}},
			{Id: 3, Kind: api.CharStyle, Name: "Code", Props: []api.Prop{prop(api.KeyBold, 1), prop(api.KeyFont, 2)}},
		}},
	}
	first := []api.Prop{prop(api.KeyParaStyle, 2), prop(api.KeyAlign, 1), prop(api.KeyAfter, 9)}
	inherited := []api.Prop{prop(api.KeyBold, 1), prop(api.KeySize, 24)}
	code := []api.Prop{prop(api.KeyCharStyle, 3), prop(api.KeyBold, 0), prop(api.KeySize, 24), prop(api.KeyFont, 2)}
	inTable := []api.Prop{prop(api.KeyParaStyle, 1), prop(api.KeyAlign, 2), prop(api.KeyAfter, 9)}
	normal := []api.Prop{prop(api.KeySize, 24)}
	for _, c := range []struct {
		flow, at   int
		para, char []api.Prop
		e          api.Errno
	}{
		{0, 0, first, code, api.OK}, {0, 1, first, code, api.OK}, {0, 2, first, inherited, api.OK}, {0, 3, first, inherited, api.OK}, {0, 4, first, inherited, api.OK}, {0, 5, nil, nil, api.OK},
		{0, 6, nil, nil, api.ErrKind}, {0, 7, nil, nil, api.ErrKind}, {0, 8, nil, nil, api.ErrKind}, {0, 9, nil, nil, api.ErrRange}, {0, -1, nil, nil, api.ErrRange}, {7, 0, nil, nil, api.OK}, {7, 1, nil, nil, api.ErrRange},
		{9, 0, inTable, normal, api.OK}, {9, 1, inTable, normal, api.OK}, {8, 0, nil, nil, api.ErrNotFound}, {8, -1, nil, nil, api.ErrNotFound}, {-1, 0, nil, nil, api.ErrNotFound}, {1, 99, nil, nil, api.ErrNotFound},
	} {
		p := api.Pos{Flow: c.flow, At: c.at}
		if got, e := paragraph.Para(d, p); show(got) != show(c.para) || e != c.e {
			t.Errorf("Para(%+v) = %+v, %d; want %+v, %d", p, got, e, c.para, c.e)
		}
		if got, e := paragraph.Char(d, p); show(got) != show(c.char) || e != c.e {
			t.Errorf("Char(%+v) = %+v, %d; want %+v, %d", p, got, e, c.char, c.e)
		}
	}
}

// TestP14_3PropertiesOfMany compares Para and Char with those of the style sheet, for all units of documents.
func TestP14_3PropertiesOfMany(t *testing.T) {
	paras, chars := 0, 0
	many(800, 2, func(r *rand.Rand, d api.Document) {
		before := show(d)
		for id, l := range flowsOf(d) {
			units := samples.Units(l)
			for _, b := range naiveBlocks(l) {
				var own []api.Prop
				if b.Mark {
					own = units[b.To-1].Head.Props
				}
				for at := b.From; at < b.To; at++ {
					item := units[at]
					if item.Kind == api.Para || item.Kind == api.Anchor {
						item.Head.Props = nil
					}
					p := api.Pos{Flow: id, At: at}
					wantPara, e := stylesheet.Para(d.Settings.Styles, own)
					wantChar, f := stylesheet.Text(d.Settings.Styles, own, item.Head.Props)
					if b.Kind != paragraph.Paragraph {
						wantPara, wantChar, e, f = nil, nil, api.ErrKind, api.ErrKind
					}
					gotPara, gotE := paragraph.Para(d, p)
					gotChar, gotF := paragraph.Char(d, p)
					if show(gotPara) != show(wantPara) || gotE != e || show(gotChar) != show(wantChar) || gotF != f || !samples.Apart(d, gotPara, gotChar) {
						t.Fatalf("in %+v at %+v: %+v, %d; %+v, %d", d, p, gotPara, gotE, gotChar, gotF)
					}
					paras += len(gotPara)
					chars += len(gotChar)
				}
			}
		}
		if show(d) != before {
			t.Fatalf("%s was changed to %+v", before, d)
		}
	})
	if paras < 100 || chars < 100 {
		t.Errorf("%d and %d properties", paras, chars)
	}
}

func TestP14_4Sections(t *testing.T) {
	a, b := []api.Prop{prop(api.KeyTop, 1)}, []api.Prop{prop(api.KeyTop, 2)}
	end := api.Head{Props: b}
	part := func(from, to int, mark bool, props []api.Prop) paragraph.Part {
		return paragraph.Part{From: from, To: to, Mark: mark, Props: props}
	}
	for i, c := range []struct {
		l    []api.Item
		want []paragraph.Part
		at   []int // the sections of the units, and of the end
	}{
		{flow(text("a"), section(a...), text("b")), []paragraph.Part{part(0, 2, true, a), part(2, 3, false, b)}, []int{0, 0, 1, 1}},
		{nil, []paragraph.Part{part(0, 0, false, b)}, []int{0}}, {flow(text("ab")), []paragraph.Part{part(0, 2, false, b)}, []int{0, 0, 0}},
		{flow(section(a...)), []paragraph.Part{part(0, 1, true, a), part(1, 1, false, b)}, []int{0, 1}},
		{flow(section(), section(a...), para(), table(1, cell(2, para())), section()), []paragraph.Part{part(0, 1, true, nil), part(1, 2, true, a), part(2, 5, true, nil), part(5, 5, false, b)}, []int{0, 1, 2, 2, 2, 3}},
	} {
		d := api.Document{Flow: c.l, End: end}
		if got := paragraph.Sections(d); show(got) != show(c.want) {
			t.Errorf("%d: Sections(%+v) = %+v", i, c.l, got)
		}
		for unit, want := range c.at {
			if got, e := paragraph.SectionAt(d, unit); got != want || e != api.OK {
				t.Errorf("%d: SectionAt(%+v, %d) = %d, %d", i, c.l, unit, got, e)
			}
		}
		for _, unit := range []int{-1, len(c.at), 1 << 62, -1 << 63} {
			if got, e := paragraph.SectionAt(d, unit); got != 0 || e != api.ErrRange {
				t.Errorf("%d: SectionAt(%+v, %d) = %d, %d", i, c.l, unit, got, e)
			}
		}
	}
}

// TestP14_4SectionsOfMany finds the sections unit by unit.
func TestP14_4SectionsOfMany(t *testing.T) {
	check := func(d api.Document) {
		before := show(d)
		var want []paragraph.Part
		from := 0
		units := samples.Units(d.Flow)
		for i, u := range units {
			if got, e := paragraph.SectionAt(d, i); got != len(want) || e != api.OK {
				t.Fatalf("SectionAt(%+v, %d) = %d, %d; want %d", d, i, got, e, len(want))
			}
			if u.Kind == api.Section {
				want = append(want, paragraph.Part{From: from, To: i + 1, Mark: true, Props: u.Head.Props})
				from = i + 1
			}
		}
		if got, e := paragraph.SectionAt(d, len(units)); got != len(want) || e != api.OK {
			t.Fatalf("SectionAt(%+v, %d) = %d, %d; want %d", d, len(units), got, e, len(want))
		}
		want = append(want, paragraph.Part{From: from, To: len(units), Props: d.End.Props})
		got := paragraph.Sections(d)
		if show(got) != show(want) || show(d) != before {
			t.Fatalf("Sections(%+v) = %+v; want %+v", d, got, want)
		}
		for _, part := range got {
			if !samples.Apart(d, part.Props) {
				t.Fatalf("Sections(%+v) share memory", d)
			}
		}
	}
	allFlows(func(l []api.Item) {
		check(api.Document{Flow: l, End: api.Head{Props: []api.Prop{prop(api.KeyTop, 7)}}})
	})
	many(500, 3, func(r *rand.Rand, d api.Document) { check(d) })
}

// naiveAll returns the paragraphs of a flow in their order.
func naiveAll(l []api.Item, id int) []paragraph.Place {
	var places []paragraph.Place
	units := samples.Units(l)
	for _, b := range naiveBlocks(l) {
		switch b.Kind {
		case paragraph.Paragraph:
			places = append(places, paragraph.Place{Flow: id, Block: b})
			for _, u := range units[b.From:b.To] {
				if u.Kind == api.Note {
					places = append(places, naiveAll(u.Flow, u.Id)...)
				}
			}
		case paragraph.Table:
			for _, row := range units[b.From].Rows {
				for _, c := range row.Cells {
					places = append(places, naiveAll(c.Flow, c.Id)...)
				}
			}
		}
	}
	return places
}

func TestP14_5All(t *testing.T) {
	rows := []api.Row{{Cells: []api.Cell{cell(9, text("x")), cell(4, note(5, para()), para(), anchor())}}, {Cells: []api.Cell{cell(3, para())}}}
	d := api.Document{Flow: flow(note(8, text("n"), para(), text("m")), text("a"), note(7), para(), api.Item{Kind: api.Table, Id: 2, Rows: rows}, section(), text("b"))}
	want := "[{Flow:0 Block:{Kind:1 From:0 To:4 Mark:true}} {Flow:8 Block:{Kind:1 From:0 To:2 Mark:true}} {Flow:8 Block:{Kind:1 From:2 To:3 Mark:false}} " +
		"{Flow:9 Block:{Kind:1 From:0 To:1 Mark:false}} {Flow:4 Block:{Kind:1 From:0 To:2 Mark:true}} {Flow:5 Block:{Kind:1 From:0 To:1 Mark:true}} " +
		"{Flow:3 Block:{Kind:1 From:0 To:1 Mark:true}} {Flow:0 Block:{Kind:1 From:6 To:7 Mark:false}}]"
	if got := paragraph.All(d); show(got) != want {
		t.Errorf("All = %+v", got)
	}
	if got := paragraph.All(api.Document{}); len(got) > 0 {
		t.Errorf("All of the empty document = %+v", got)
	}
	many(1500, 4, func(r *rand.Rand, d api.Document) {
		before := show(d)
		want := naiveAll(d.Flow, 0)
		if got := paragraph.All(d); !slices.Equal(got, want) || show(d) != before {
			t.Fatalf("All(%+v) = %+v; want %+v", d, got, want)
		}
	})
}

func TestP14_6Units(t *testing.T) {
	allFlows(func(l []api.Item) {
		end := 0
		got, _ := paragraph.Blocks(l)
		for _, b := range got {
			if b.From != end || b.To <= b.From {
				t.Fatalf("Blocks(%+v) = %+v", l, got)
			}
			end = b.To
		}
		if end != len(samples.Units(l)) {
			t.Fatalf("Blocks(%+v) = %+v", l, got)
		}
		marks := strings.Count(run.Text(l), "\x1D")
		if sections := paragraph.Sections(api.Document{Flow: l}); len(sections) != marks+1 {
			t.Fatalf("Sections(%+v) = %+v", l, sections)
		}
	})
}

// TestP14_6Dividing inserts a paragraph mark in front of each unit of each paragraph, and removes each mark.
func TestP14_6Dividing(t *testing.T) {
	allFlows(func(l []api.Item) {
		units := samples.Units(l)
		before, _ := paragraph.Blocks(l)
		for i, b := range before {
			if b.Kind != paragraph.Paragraph {
				continue
			}
			for at := b.From; at < b.To; at++ {
				rest := block(b.Kind, at+1, b.To+1, b.Mark)
				if !b.Mark && !slices.ContainsFunc(units[at:b.To], func(u api.Item) bool { return u.Kind != api.Anchor }) {
					rest.Kind = paragraph.Loose
				}
				want := append(slices.Clone(before[:i]), block(b.Kind, b.From, at+1, true), rest)
				if got, e := paragraph.Blocks(slices.Insert(slices.Clone(units), at, para())); !slices.Equal(got, append(want, moved(before[i+1:], 1)...)) || e != api.OK {
					t.Fatalf("with a mark at %d in %+v: %+v, %d", at, l, got, e)
				}
			}
			if b.Mark && i+1 < len(before) && before[i+1].Kind == paragraph.Paragraph {
				next := before[i+1]
				want := append(slices.Clone(before[:i]), block(b.Kind, b.From, next.To-1, next.Mark))
				if got, e := paragraph.Blocks(slices.Delete(slices.Clone(units), b.To-1, b.To)); !slices.Equal(got, append(want, moved(before[i+2:], -1)...)) || e != api.OK {
					t.Fatalf("without the mark at %d in %+v: %+v, %d", b.To-1, l, got, e)
				}
			}
		}
	})
}

func moved(l []paragraph.Block, by int) []paragraph.Block {
	var all []paragraph.Block
	for _, b := range l {
		all = append(all, block(b.Kind, b.From+by, b.To+by, b.Mark))
	}
	return all
}

// TestP14Long checks that long flows are handled in a reasonable time.
func TestP14Long(t *testing.T) {
	var l []api.Item
	for range 1 << 16 {
		l = append(l, text("a"), para())
	}
	blocks, e := paragraph.Blocks(l)
	if len(blocks) != 1<<16 || e != api.OK {
		t.Errorf("%d blocks, %d", len(blocks), e)
	}
	for _, b := range blocks[:100] {
		if s, e := paragraph.Text(l, b); s != "a" || e != api.OK {
			t.Errorf("Text(%+v) = %q, %d", b, s, e)
		}
	}
	if all := paragraph.All(api.Document{Flow: l}); len(all) != 1<<16 {
		t.Errorf("%d paragraphs", len(all))
	}
}
