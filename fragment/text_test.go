package fragment_test

import (
	"math/rand/v2"
	"slices"
	"strings"
	"testing"

	"obelus/api"
	"obelus/document"
	"obelus/edit"
	"obelus/fragment"
	"obelus/run"
	"obelus/samples"
)

func TestP21_4Text(t *testing.T) {
	for i, c := range []struct {
		l    []api.Item
		want string
	}{
		{nil, ""}, {flow(text("b"), note(1, text("n")), para()), "b[n]\n"}, {flow(text("a\u00e9\U0001F600"), bold("\n{x}[")), "a\u00e9\U0001F600\n{x}["}, {flow(para(), section(), para(prop(api.KeyAlign, 1))), "\n\n\n"}, {flow(samples.Break(api.LineBreak), samples.Break(api.PageBreak), samples.Break(api.Tab)), "\u000B\u000C\u0009"}, {flow(samples.Field("= 1 + 2"), samples.Field("page")), "{= 1 + 2}{page}"},
		{flow(note(1), note(2, samples.Field("page"), para(), table(3, row(cell(4, text("x")))))), "[][{page}\nx\n]"}, {flow(text("a"), table(1, row(cell(2, text("x")), cell(3, text("y"), para()), cell(4)), row(cell(5))), text("b")), "ax\ty\n\t\n\nb"}, {flow(table(1, row(cell(2, text("x"), table(3, row(cell(4, text("y")), cell(5, note(6, text("z"))))))))), "xy\t[z]\n\n"},
		{flow(comment(1)), ""}, {flow(text("a"), note(2)), ""}, {flow(text("a"), text("b")), ""}, {flow(text("a"), inserted(text("b"))), ""}, {flow(text("\xFF")), ""},
	} {
		if got := fragment.Text(fragment.Fragment{Items: c.l}); got != c.want {
			t.Errorf("%d: Text = %q; want %q", i, got, c.want)
		}
	}
	many(1500, 5, func(r *rand.Rand, d api.Document) {
		f, _ := fragment.Copy(d, anyRange(r, d))
		before := show(f)
		if got, want := fragment.Text(f), naiveText(f.Items); got != want {
			t.Fatalf("Text(%+v) = %q; want %q", f, got, want)
		}
		if show(f) != before {
			t.Fatalf("%s was changed", before)
		}
	})
}

func TestP21_4FromText(t *testing.T) {
	tab, line, page := samples.Break(api.Tab), samples.Break(api.LineBreak), samples.Break(api.PageBreak)
	full := strings.Repeat("\u00e9", api.MaxUnits)
	for _, c := range []struct {
		s    string
		want []api.Item
		e    api.Errno
	}{
		{"", nil, api.OK}, {"a", flow(text("a")), api.OK}, {"\n", flow(para()), api.OK}, {"\n\n\t\v\f\n", flow(para(), para(), tab, line, page, para()), api.OK}, {"ab\ncd\tef\vgh\fij", flow(text("ab"), para(), text("cd"), tab, text("ef"), line, text("gh"), page, text("ij")), api.OK}, {"a\r\nb\x1D\x00\uFFFC", flow(text("a\r"), para(), text("b\x1D\x00\uFFFC")), api.OK}, {"{page}[n]\u2028\u0085\u000E\u0008", flow(text("{page}[n]\u2028\u0085\u000E\u0008")), api.OK},
		{"\xFF", nil, api.ErrUTF8}, {"ab\n\xC3", nil, api.ErrUTF8}, {"\xED\xA0\x80", nil, api.ErrUTF8}, {"\xC0\x8A", nil, api.ErrUTF8}, {full, flow(text(full)), api.OK}, {full + "a", nil, api.ErrLimit}, {"\n" + full, nil, api.ErrLimit}, {full + "\n\xFF", nil, api.ErrUTF8}, {strings.Repeat("\n", api.MaxUnits), slices.Repeat(flow(para()), api.MaxUnits), api.OK}, {strings.Repeat("\t", api.MaxUnits+1), nil, api.ErrLimit},
	} {
		got, e := fragment.FromText(c.s)
		if !fragment.Equal(got, fragment.Fragment{Items: c.want}) || e != c.e || e != api.OK && !isZero(got) {
			t.Errorf("FromText(%.20q) = %.99s, %d; want %d", c.s, show(got), e, c.e)
		}
	}
}

// TestP21_6FromText makes fragments of many strings, and strings of these.
func TestP21_6FromText(t *testing.T) {
	for s := range samples.Strings([]string{"a", "\n", "\t", "\v", "\f", "\u00e9", "{", "]", "\r"}, 5) {
		f, e := fragment.FromText(s)
		if e != api.OK || fragment.Check(f) != api.OK || fragment.Text(f) != s || run.Text(f.Items) != s || len(f.Styles)+len(f.Lists) > 0 {
			t.Fatalf("FromText(%q) = %+v, %d", s, f, e)
		}
		if strings.ContainsAny(show(f), "\n\t\v\f") || slices.ContainsFunc(f.Items, func(item api.Item) bool { return len(item.Head.Props) > 0 }) {
			t.Fatalf("FromText(%q) = %+v", s, f)
		}
	}
}

// odd returns items with contents in which only items of other kinds can have them.
func odd() []api.Item {
	inText, inAnchor, inNote, inTable := text("a"), comment(50), note(20, comment(51), note(21)), table(30, row(cell(31), cell(32, comment(52), text("b"), text("c"))), row())
	inText.Flow, inText.Rows = flow(note(10)), []api.Row{row(cell(11, note(12)))}
	inAnchor.Flow = flow(note(15))
	inNote.Rows = []api.Row{{Head: marked(para()).Head, Cells: []api.Cell{{Id: 22, Head: marked(para()).Head}}}}
	inTable.Flow = flow(marked(note(33)))
	return flow(marked(inText), inAnchor, inNote, inTable, api.Item{Kind: 99, Id: 60, Flow: flow(table(40, row(cell(41))))})
}

func TestP21_5IdsAndRenew(t *testing.T) {
	if ids := fragment.Ids(odd()); !slices.Equal(ids, []int{10, 11, 12, 15, 20, 21, 22, 30, 33, 31, 32, 40, 41}) {
		t.Errorf("Ids = %v", ids)
	}
	if ids := fragment.Ids(flow(text("a"), comment(5), para())); len(ids) > 0 {
		t.Errorf("Ids = %v", ids)
	}
	if ids := fragment.Ids(flow(table(9, row(cell(3, note(7)), cell(3)), row(cell(1))), note(-2))); !slices.Equal(ids, []int{9, 3, 7, 3, 1, -2}) {
		t.Errorf("Ids = %v", ids)
	}
	got, next := fragment.Renew(odd(), 100)
	if ids := fragment.Ids(got); !slices.Equal(ids, []int{100, 101, 102, 103, 104, 105, 106, 107, 108, 109, 110, 111, 112}) || next != 113 {
		t.Errorf("Renew = %v, %d", ids, next)
	}
	if want := naiveRenew(odd(), 100); show(got) != show(want) || got[1].Id != 50 || got[4].Id != 60 {
		t.Errorf("Renew = %+v; want %+v", got, want)
	}
	for _, first := range []int{-3, 0, 7} {
		if got, next := fragment.Renew(flow(text("a"), text("b"), comment(1)), first); show(got) != show(flow(text("a"), text("b"), comment(1))) || next != first {
			t.Errorf("Renew = %+v, %d", got, next)
		}
	}
	r := rand.New(rand.NewPCG(21, 6))
	for range 1500 {
		d := samples.Document(r.IntN)
		before, first := show(d), r.IntN(50)-5
		ids := naiveIds(d.Flow)
		if got := fragment.Ids(d.Flow); !slices.Equal(got, ids) {
			t.Fatalf("Ids(%+v) = %v", d.Flow, got)
		}
		got, next := fragment.Renew(d.Flow, first)
		if show(got) != show(naiveRenew(d.Flow, first)) || next != first+len(ids) {
			t.Fatalf("Renew(%+v, %d) = %+v, %d", d.Flow, first, got, next)
		}
		if show(d) != before || !samples.Apart(d, got) {
			t.Fatalf("%s was changed, or shares memory", before)
		}
	}
}

func TestP21_5Strip(t *testing.T) {
	text2 := text("a")
	text2.Flow, text2.Rows = flow(note(10)), []api.Row{row(cell(11, note(12)))}
	note2 := note(20, note(21))
	note2.Rows = []api.Row{row(cell(22))}
	table2 := table(30, row(cell(31), cell(32, text("bc"))))
	table2.Flow = flow(note(33))
	want := flow(text2, note2, table2, api.Item{Kind: 99, Id: 60, Flow: flow(table(40, row(cell(41))))})
	if got := fragment.Strip(odd()); show(got) != show(want) {
		t.Errorf("Strip = %+v; want %+v", got, want)
	}
	withProps := inserted(bold("b"))
	for i, c := range []struct{ l, want []api.Item }{
		{nil, nil}, {flow(comment(1), samples.Start(2, "a"), samples.Anchor(api.BookmarkEnd, 2)), nil}, {flow(text("a"), comment(1), text("b")), flow(text("ab"))}, {flow(text("a"), marked(text("b")), inserted(text("c"))), flow(text("abc"))}, {flow(text("a"), withProps, bold("c")), flow(text("a"), bold("bc"))}, {flow(text(""), table(1)), nil}, {flow(note(3, comment(1), marked(para()))), flow(note(3, para()))}, {flow(marked(note(3)), marked(section())), flow(note(3), section())},
	} {
		if got := fragment.Strip(c.l); show(got) != show(c.want) {
			t.Errorf("%d: Strip = %+v; want %+v", i, got, c.want)
		}
	}
	r := rand.New(rand.NewPCG(21, 7))
	for range 1500 {
		d := samples.Document(r.IntN)
		before := show(d)
		got := fragment.Strip(d.Flow)
		if want := naiveStrip(d.Flow); show(got) != show(want) || !document.Plain(doc(got...)) {
			t.Fatalf("Strip(%+v) = %+v; want %+v", d.Flow, got, want)
		}
		if show(d) != before || !samples.Apart(d, got) {
			t.Fatalf("%s was changed, or shares memory", before)
		}
	}
}

func TestP21_5Equal(t *testing.T) {
	full := func() fragment.Fragment {
		f := base()
		f.Styles[0].Props, f.Items = []api.Prop{prop(1, 2)}, odd()
		return f
	}
	changes := []func(f *fragment.Fragment){
		func(f *fragment.Fragment) { f.Items = f.Items[1:] }, func(f *fragment.Fragment) { f.Items[0].Text = "b" }, func(f *fragment.Fragment) { f.Items[0].Flow[0].Id++ }, func(f *fragment.Fragment) { f.Items[0].Rows[0].Cells[0].Id++ }, func(f *fragment.Fragment) { f.Items[0].Head.Marks.Ins++ }, func(f *fragment.Fragment) { f.Items[1].Code++ }, func(f *fragment.Fragment) { f.Items = nil },
		func(f *fragment.Fragment) { f.Styles = nil }, func(f *fragment.Fragment) { f.Styles[1].Id++ }, func(f *fragment.Fragment) { f.Styles[1].Kind++ }, func(f *fragment.Fragment) { f.Styles[1].Name = "" }, func(f *fragment.Fragment) { f.Styles[1].Base++ }, func(f *fragment.Fragment) { f.Styles[1].Next++ }, func(f *fragment.Fragment) { f.Styles[0].Props[0].Value++ },
		func(f *fragment.Fragment) { f.Lists = f.Lists[:1] }, func(f *fragment.Fragment) { f.Lists[1].Id++ }, func(f *fragment.Fragment) { f.Lists[1].Levels = nil }, func(f *fragment.Fragment) { f.Lists[1].Levels[0].Start++ }, func(f *fragment.Fragment) { f.Lists[1].Levels[0].Template = "" },
	}
	for i, change := range changes {
		f := full()
		change(&f)
		if fragment.Equal(f, full()) || fragment.Equal(full(), f) || !fragment.Equal(f, f) {
			t.Errorf("%d: Equal", i)
		}
	}
	hollow := fragment.Fragment{Items: flow(), Styles: []api.Style{}, Lists: []api.List{}}
	if !fragment.Equal(full(), full()) || !fragment.Equal(hollow, fragment.Fragment{}) || !fragment.Equal(fragment.Fragment{Items: flow(note(1, flow()...))}, fragment.Fragment{Items: flow(note(1))}) {
		t.Error("equal fragments are different")
	}
}

// TestP21_6Copies copies ranges, pastes them into the body of the same document, and copies what was pasted.
func TestP21_6Copies(t *testing.T) {
	pasted := 0
	many(4000, 8, func(r *rand.Rand, d api.Document) {
		f, e := fragment.Copy(d, anyRange(r, d))
		if e != api.OK || fragment.Check(f) != api.OK {
			t.Fatalf("Copy = %+v, %d, which has the error %d", f, e, fragment.Check(f))
		}
		at := r.IntN(len(samples.Units(d.Flow)) + 1)
		insertion, e := fragment.Paste(d, api.Pos{At: at}, f, document.Fresh(d))
		if e == api.ErrEmpty && len(f.Items) == 0 {
			return
		}
		behind, wrong := edit.Apply(d, insertion)
		again, g := fragment.Copy(behind, api.Range{From: at, To: at + len(samples.Units(f.Items))})
		if e != api.OK || wrong != api.OK || g != api.OK || !fragment.Equal(again, f) {
			t.Fatalf("%+v pasted into %+v and copied: %+v, %d, %d, %d", f, d, again, e, wrong, g)
		}
		pasted++
	})
	if pasted < 1500 {
		t.Errorf("%d were pasted", pasted)
	}
}

// TestP21_6Cuts cuts ranges without anchors, and pastes them where they were.
func TestP21_6Cuts(t *testing.T) {
	body, inside := 0, 0
	many(6000, 9, func(r *rand.Rand, d api.Document) {
		d.Flow = without(api.Anchor, d.Flow)
		if r.IntN(3) == 0 && len(d.Flow) > 0 { // anchors elsewhere stay where they are
			d.Flow = append(flow(comment(1)), append(d.Flow, comment(2))...)
		}
		rg := anyRange(r, d)
		l, _ := document.Flow(d, rg.Flow)
		if rg.From == rg.To || strings.Contains(show(samples.Units(l)[rg.From:rg.To]), "{Kind:8 ") {
			return
		}
		f, rest, _ := fragment.Cut(d, rg)
		insertion, e := fragment.Paste(rest, api.Pos{Flow: rg.Flow, At: rg.From}, f, document.Fresh(rest))
		got, wrong := edit.Apply(rest, insertion)
		if e != api.OK || wrong != api.OK || !document.Same(got, d) {
			t.Fatalf("%+v of %+v cut and pasted: %+v, %d, %d", rg, d, got, e, wrong)
		}
		if rg.Flow == 0 {
			body++
		} else {
			inside++
		}
	})
	if body < 500 || inside < 200 {
		t.Errorf("%d and %d ranges", body, inside)
	}
}

// TestP21_6Large copies and pastes a document of the greatest size, with the greatest tables.
func TestP21_6Large(t *testing.T) {
	d := doc(text(strings.Repeat("ab", api.MaxUnits/4)))
	for i := range api.MaxUnits / 4 {
		d.Flow = append(d.Flow, note(i+1, bold("x")))
	}
	for i := range api.MaxStyles {
		d.Settings.Styles = append(d.Settings.Styles, api.Style{Id: i + 1, Kind: api.ParaStyle, Name: strings.Repeat("a", i%30+1) + string(rune('a'+i/30)), Base: i, Next: api.MaxStyles - i})
	}
	for i := range api.MaxLists {
		d.Settings.Lists = append(d.Settings.Lists, api.List{Id: i + 1, Levels: []api.Level{{Format: api.Decimal, Start: i + 1, Template: "%1"}}})
	}
	d.Flow[1].Flow = flow(para(prop(api.KeyParaStyle, 1), prop(api.KeyList, 64)))
	f, rest, e := fragment.Cut(d, api.Range{From: 0, To: api.MaxUnits * 3 / 4})
	if e != api.OK || document.Check(d) != api.OK || len(rest.Flow) > 0 || len(f.Styles) != api.MaxStyles || len(f.Lists) != 1 {
		t.Fatalf("Cut = %d styles, %d lists, %d", len(f.Styles), len(f.Lists), e)
	}
	insertion, e := fragment.Paste(rest, api.Pos{}, f, 1)
	if got, wrong := edit.Apply(rest, insertion); e != api.OK || wrong != api.OK || !document.Equal(got, d) {
		t.Errorf("Paste = %d, %d", e, wrong)
	}
}
