package edit_test

import (
	"math"
	"math/rand/v2"
	"slices"
	"strings"
	"testing"

	"obelus/api"
	"obelus/document"
	"obelus/edit"
	"obelus/samples"
)

// many calls a function for many plain documents and edits of them.
func many(count int, seed uint64, f func(r *rand.Rand, d api.Document, e api.Edit)) {
	r := rand.New(rand.NewPCG(17, seed))
	for range count {
		d := samples.Plain(r.IntN)
		f(r, d, samples.Edit(r.IntN, d))
	}
}

// full shows a document and an edit together with what stands behind the ends of some of their slices.
func full(d api.Document, e api.Edit) string {
	return show(d.Flow[:cap(d.Flow)]) + show(d) + show(e) + show(e.Items[:cap(e.Items)]) + show(e.Rows[:cap(e.Rows)]) + show(e.Cells[:cap(e.Cells)])
}

// isZero reports whether a document has nothing.
func isZero(d api.Document) bool { return show(d) == show(api.Document{}) }

// anchorsOf returns the anchors of each flow of a document.
func anchorsOf(d api.Document) map[int][]string {
	all := make(map[int][]string)
	for _, id := range document.Flows(d) {
		l, _ := document.Flow(d, id)
		all[id] = []string{}
		for _, item := range l {
			if item.Kind == api.Anchor {
				all[id] = append(all[id], show(item))
			}
		}
	}
	return all
}

func TestP1AllArguments(t *testing.T) {
	r := rand.New(rand.NewPCG(17, 1))
	wild := []api.Document{{}, doc(text("\xFF"), para()), doc(note(0, note(0, comment(0)))), doc(table(1), table(1, row()), note(1, table(2, row(cell(1)), row()))), {Flow: flow(api.Item{Kind: 99, Flow: flow(text("a"))}), End: api.Head{Props: []api.Prop{prop(9, 9), prop(-1, 0)}}}}
	for range 200 {
		d := samples.Plain(r.IntN)
		wild = append(wild, samples.Wrong(r.IntN), samples.Wrong(func(n int) int { return min(r.IntN(n), r.IntN(n)) }), d)
	}
	numbers := append(samples.Numbers(), 4002, 8003)
	number := func() int { return numbers[r.IntN(len(numbers))] }
	reached := 0
	for i, d := range wild {
		for range 60 {
			e := samples.Edit(r.IntN, d)
			if r.IntN(2) == 0 {
				e = api.Edit{Kind: 1 + r.IntN(14), Flow: r.IntN(3), At: number(), Count: number(), Sub: number(), To: number(), ToAt: number(), Fresh: number(), Key: number(), Value: number(), Items: d.Flow, Rows: []api.Row{{}, row(cell(0, d.Flow...))}, Cells: []api.Cell{cell(-1, d.Flow...)}, Settings: d.Settings}
				keep(&e)
			}
			err := edit.Check(d, e)
			got, f := edit.Apply(d, e)
			out, at, g := edit.Run(d, []api.Edit{e})
			if err != api.OK && (f == api.OK || !isZero(got)) || g != api.OK && (at != 0 || !isZero(out)) {
				t.Fatalf("%d: %+v of %+v: %d; %+v, %d; %+v, %d, %d", i, e, d, err, got, f, out, at, g)
			}
			if err == api.OK {
				reached++
			}
			edit.Ids(e)
			if !edit.Equal(e, edit.Clone(e)) {
				t.Fatalf("%d: Clone(%+v)", i, e)
			}
		}
	}
	if reached < 500 {
		t.Errorf("%d edits were possible", reached)
	}
	for _, kind := range samples.Numbers() {
		edit.Tracked(kind)
		edit.Word(kind)
	}
}

// keep keeps the fields that the kind of an edit uses.
func keep(e *api.Edit) {
	used := lines()[e.Kind-1].fields
	kept := api.Edit{Kind: e.Kind}
	for _, field := range used {
		switch field {
		case "Flow":
			kept.Flow = e.Flow
		case "At":
			kept.At = e.At
		case "Count":
			kept.Count = e.Count
		case "Sub":
			kept.Sub = e.Sub
		case "To":
			kept.To = e.To
		case "ToAt":
			kept.ToAt = e.ToAt
		case "Fresh":
			kept.Fresh = e.Fresh
		case "Key":
			kept.Key = e.Key
		case "Value":
			kept.Value = e.Value
		case "Items":
			kept.Items = e.Items
		case "Rows":
			kept.Rows = e.Rows
		case "Cells":
			kept.Cells = e.Cells
		case "Settings":
			kept.Settings = e.Settings
		}
	}
	*e = kept
}

// TestP1Deep nests flows as deeply as the document permits.
func TestP1Deep(t *testing.T) {
	deep := 1 << 16
	tables, notes := samples.Deep(deep)
	for i, l := range [][]api.Item{tables, notes} {
		d := doc(l...)
		want := []api.Errno{api.ErrDepth, api.ErrFlow}[i]
		if e := edit.Check(api.Document{}, api.Edit{Kind: api.EditInsert, Items: l}); e != want {
			t.Errorf("%d: insert = %d", i, e)
		}
		if e := edit.Check(doc(table(1<<20, row(cell(1<<21)))), api.Edit{Kind: api.EditInsertCells, Flow: 1 << 20, Cells: []api.Cell{cell(1<<22, l...)}}); e != want {
			t.Errorf("%d: insert-cells = %d", i, e)
		}
		if e := edit.Check(d, api.Edit{Kind: api.EditMove, Count: 2, ToAt: 3, Fresh: 1 << 20}); e != want {
			t.Errorf("%d: move = %d", i, e)
		}
		if got, e := edit.Apply(d, api.Edit{Kind: api.EditDelete, Flow: 4, Count: 1}); e != api.OK || document.Units(got) != 3*deep-1 {
			t.Errorf("%d: delete = %d", i, e)
		}
		one := api.Edit{Items: l, Rows: []api.Row{row(cell(1, l...))}}
		if !edit.Equal(one, edit.Clone(one)) || len(edit.Ids(one)) < 2*deep {
			t.Errorf("%d: an edit is not equal to its copy, or has %d ids", i, len(edit.Ids(one)))
		}
	}
}

// TestP17_1Many compares the errors of guesses with those that the rules give one by one.
func TestP17_1Many(t *testing.T) {
	seen := make(map[[2]int]int)
	many(20000, 2, func(_ *rand.Rand, d api.Document, e api.Edit) {
		want := naiveCheck(d, e)
		if err := edit.Check(d, e); err != want {
			t.Fatalf("Check(%+v, %+v) = %d; want %d", d, e, err, want)
		}
		seen[[2]int{e.Kind, int(want)}]++
	})
	for kind := 1; kind <= 14; kind++ {
		if seen[[2]int{kind, int(api.OK)}] < 50 {
			t.Errorf("%d edits of the kind %d were possible", seen[[2]int{kind, int(api.OK)}], kind)
		}
	}
	for _, c := range [][2]int{{4, int(api.ErrMove)}, {4, int(api.ErrId)}, {4, int(api.ErrFlow)}, {1, int(api.ErrFlow)}, {1, int(api.ErrMark)}, {3, int(api.ErrStyle)}, {3, int(api.ErrValue)}, {14, int(api.ErrStyle)}} {
		if seen[c] < 5 {
			t.Errorf("edits of the kind %d had the error %d %d times", c[0], c[1], seen[c])
		}
	}
}

func TestP17_2Examples(t *testing.T) {
	bold, shade := prop(api.KeyBold, 1), prop(api.KeyShade, 7)
	shaded := func(c api.Cell) api.Cell { c.Head.Props = []api.Prop{shade}; return c }
	withHead := func(item api.Item, props ...api.Prop) api.Item { item.Head.Props = props; return item }
	letters := doc(text("abcd"), para())
	inner := table(10, row(cell(11, text("x")), cell(12)), row(cell(13)))
	for i, c := range []struct {
		d    api.Document
		e    api.Edit
		want []api.Item
	}{
		{doc(text("ab"), para()), api.Edit{Kind: api.EditDelete, At: 1, Count: 2}, flow(text("a"))}, {doc(text("ab"), comment(1)), api.Edit{Kind: api.EditDelete, At: 1, Count: 2}, flow(text("a"), comment(1))},
		{doc(comment(2), comment(1)), api.Edit{Kind: api.EditDelete, Count: 2}, flow(comment(2), comment(1))}, {doc(comment(2), text("a"), comment(1), para(), text("b")), api.Edit{Kind: api.EditDelete, At: 1, Count: 3}, flow(comment(2), comment(1), text("b"))},
		{letters, api.Edit{Kind: api.EditMove, Count: 2, ToAt: 3}, flow(text("cabd"), para())}, {letters, api.Edit{Kind: api.EditMove, At: 2, Count: 2}, flow(text("cdab"), para())}, {letters, api.Edit{Kind: api.EditMove, At: 4, Count: 1, ToAt: 1}, flow(text("a"), para(), text("bcd"))}, {letters, api.Edit{Kind: api.EditMove, At: 1, Count: 1, ToAt: 5}, flow(text("acd"), para(), text("b"))},
		{doc(text("a"), comment(1), text("bc")), api.Edit{Kind: api.EditMove, Count: 3, ToAt: 4}, flow(comment(1), text("cab"))},
		{doc(inner, text("ab"), note(9)), api.Edit{Kind: api.EditMove, At: 1, Count: 3, To: 13, Fresh: 1}, flow(table(10, inner.Rows[0], row(cell(13, text("ab"), note(1)))))},
		{doc(note(9), inner, text("ab"), note(8, para())), api.Edit{Kind: api.EditMove, Count: 5, ToAt: 0, To: 12}, nil}, // into itself: an error
		{doc(text("ab"), inner, note(8, para())), api.Edit{Kind: api.EditMove, At: 2, Count: 2, Fresh: 20}, flow(table(20, row(cell(21, text("x")), cell(22)), row(cell(23))), note(24, para()), text("ab"))},
		{doc(inner), api.Edit{Kind: api.EditMove, Flow: 11, Count: 1, ToAt: 1}, flow(table(10, row(cell(11), cell(12)), row(cell(13))), text("x"))},
		{letters, api.Edit{Kind: api.EditFormat, At: 1, Count: 4, Key: api.KeyBold, Value: 1}, flow(text("a"), text("bcd", bold), para(bold))}, {letters, api.Edit{Kind: api.EditFormat, At: 1, Count: 4, Key: api.KeyAlign, Value: 2}, flow(text("abcd"), para(prop(api.KeyAlign, 2)))}, {letters, api.Edit{Kind: api.EditFormat, Count: 4, Key: api.KeyTop, Value: 2}, letters.Flow},
		{doc(text("a", bold), text("b"), text("c", bold)), api.Edit{Kind: api.EditFormat, Count: 3, Key: api.KeyBold, Clear: true}, flow(text("abc"))}, {doc(text("abc", bold)), api.Edit{Kind: api.EditFormat, At: 1, Count: 1, Key: api.KeyBold, Value: 0}, flow(text("a", bold), text("b", prop(api.KeyBold, 0)), text("c", bold))},
		{doc(note(8, text("n")), inner, comment(1), samples.Field("page"), samples.Break(api.Tab), section()), api.Edit{Kind: api.EditFormat, Count: 6, Key: api.KeyBold, Value: 1}, flow(withHead(note(8, text("n")), bold), inner, comment(1), withHead(samples.Field("page"), bold), withHead(samples.Break(api.Tab), bold), section())},
		{doc(inner), api.Edit{Kind: api.EditFormat, Count: 1, Key: api.KeyTableWidth, Value: 3}, flow(withHead(inner, prop(api.KeyTableWidth, 3)))},
		{letters, api.Edit{Kind: api.EditInsert, At: 4, Items: flow(text("x"), text("y"))}, flow(text("abcdxy"), para())}, {letters, api.Edit{Kind: api.EditInsert, At: 1, Items: flow(text("x", bold))}, flow(text("a"), text("x", bold), text("bcd"), para())}, {letters, api.Edit{Kind: api.EditInsert, At: 5, Items: flow(section())}, flow(text("abcd"), para(), section())},
		{letters, api.Edit{Kind: api.EditPutAnchor, At: 2, Items: flow(comment(1))}, flow(text("ab"), comment(1), text("cd"), para())}, {doc(text("ab"), comment(1), text("cd")), api.Edit{Kind: api.EditDropAnchor, At: 2}, flow(text("abcd"))},
		{doc(inner), api.Edit{Kind: api.EditInsertRows, Flow: 10, At: 1, Rows: []api.Row{row(cell(1)), row(cell(2, text("a"), text("b")))}}, flow(table(10, inner.Rows[0], row(cell(1)), row(cell(2, text("ab"))), inner.Rows[1]))}, {doc(inner), api.Edit{Kind: api.EditInsertRows, Flow: 10, At: 2, Rows: rows(1, 5)}, flow(table(10, inner.Rows[0], inner.Rows[1], row(cell(5))))},
		{doc(inner), api.Edit{Kind: api.EditDeleteRows, Flow: 10, Count: 1}, flow(table(10, row(cell(13))))}, {doc(text("a"), inner, text("b")), api.Edit{Kind: api.EditDeleteRows, Flow: 10, Count: 2}, flow(text("ab"))},
		{doc(inner), api.Edit{Kind: api.EditInsertCells, Flow: 10, At: 1, Cells: cells(2, 20)}, flow(table(10, inner.Rows[0], row(cell(20), cell(21), cell(13))))}, {doc(inner), api.Edit{Kind: api.EditInsertCells, Flow: 10, Sub: 1, Cells: cells(1, 20)}, flow(table(10, row(cell(11, text("x")), cell(20), cell(12)), inner.Rows[1]))},
		{doc(inner), api.Edit{Kind: api.EditDeleteCells, Flow: 10, Sub: 1, Count: 1}, flow(table(10, row(cell(11, text("x"))), row(cell(13))))}, {doc(inner), api.Edit{Kind: api.EditDeleteCells, Flow: 10, Count: 2}, flow(table(10, row(cell(13))))}, {doc(table(10, row(cell(13))), text("a")), api.Edit{Kind: api.EditDeleteCells, Flow: 10, Count: 1}, flow(text("a"))},
		{doc(inner), api.Edit{Kind: api.EditFormatRow, Flow: 10, At: 1, Key: api.KeyHeader, Value: 1}, flow(table(10, inner.Rows[0], api.Row{Head: api.Head{Props: []api.Prop{prop(api.KeyHeader, 1)}}, Cells: cells(1, 13)}))}, {doc(inner), api.Edit{Kind: api.EditFormatCell, Flow: 10, Sub: 1, Key: api.KeyShade, Value: 7}, flow(table(10, row(cell(11, text("x")), shaded(cell(12))), inner.Rows[1]))}, {doc(table(10, row(shaded(cell(11))))), api.Edit{Kind: api.EditFormatCell, Flow: 10, Key: api.KeyShade, Clear: true}, flow(table(10, row(cell(11))))},
	} {
		got, err := edit.Apply(c.d, c.e)
		if c.want == nil {
			if err != api.ErrMove || !isZero(got) {
				t.Errorf("%d: Apply = %+v, %d", i, got, err)
			}
			continue
		}
		if show(got) != show(doc(c.want...)) || err != api.OK {
			t.Errorf("%d: Apply = %+v, %d; want %+v", i, got, err, c.want)
		}
	}
	d := base()
	d.End.Props = []api.Prop{prop(api.KeyTop, 3)}
	got, err := edit.Apply(d, api.Edit{Kind: api.EditFormatEnd, Key: api.KeyBottom, Value: 4})
	if show(got.End.Props) != show([]api.Prop{prop(api.KeyTop, 3), prop(api.KeyBottom, 4)}) || err != api.OK {
		t.Errorf("format-end = %+v, %d", got, err)
	}
	got, err = edit.Apply(d, api.Edit{Kind: api.EditFormatEnd, Key: api.KeyTop, Clear: true})
	if len(got.End.Props) > 0 || err != api.OK || len(d.End.Props) != 1 {
		t.Errorf("format-end = %+v, %d", got, err)
	}
	settings := possible()[api.EditSettings]
	if got, err := edit.Apply(d, settings); show(got.Settings) != show(settings.Settings) || show(got.Flow) != show(d.Flow) || err != api.OK {
		t.Errorf("settings = %+v, %d", got, err)
	}
}

// TestP17_2Many compares the documents behind guesses with those that the effects give unit by unit.
func TestP17_2Many(t *testing.T) {
	possible := make(map[int]int)
	many(8000, 3, func(_ *rand.Rand, d api.Document, e api.Edit) {
		before := full(d, e)
		got, err := edit.Apply(d, e)
		if want := edit.Check(d, e); err != want || err != api.OK && !isZero(got) {
			t.Fatalf("Apply(%+v, %+v) = %+v, %d; want %d", d, e, got, err, want)
		}
		if err == api.OK {
			possible[e.Kind]++
			if want := document.Normal(naiveApply(d, e)); show(got) != show(want) {
				t.Fatalf("Apply(%+v, %+v) = %+v; want %+v", d, e, got, want)
			}
			if !samples.Apart(got, d, e) {
				t.Fatalf("Apply(%+v, %+v) = %+v shares memory", d, e, got)
			}
		}
		if full(d, e) != before {
			t.Fatalf("%s was changed to %s", before, full(d, e))
		}
	})
	for kind := 1; kind <= 14; kind++ {
		if possible[kind] < 20 {
			t.Errorf("%d edits of the kind %d were possible", possible[kind], kind)
		}
	}
}

func TestP17_2Run(t *testing.T) {
	letters := doc(text("a"), text("b"))
	letters.Revs = []api.Rev{{Id: 1, Author: "a"}}
	out, at, err := edit.Run(letters, nil)
	if show(out) != show(doc(text("ab"))) || at != 0 || err != api.OK || !samples.Apart(letters, out) {
		t.Errorf("no edits: %+v, %d, %d", out, at, err)
	}
	tracked := doc(inserted(text("a")), text("b"), text("c"))
	tracked.Revs = letters.Revs
	out, at, err = edit.Run(tracked, nil)
	if show(out) != show(document.Normal(tracked)) || at != 0 || err != api.OK {
		t.Errorf("no edits of a document with marks: %+v, %d, %d", out, at, err)
	}
	insert := api.Edit{Kind: api.EditInsert, At: 1, Items: flow(text("x"))}
	remove := api.Edit{Kind: api.EditDelete, At: 1, Count: 2}
	for i, c := range []struct {
		d    api.Document
		l    []api.Edit
		want api.Document
		at   int
		e    api.Errno
	}{
		{letters, []api.Edit{insert, remove}, doc(text("a")), 2, api.OK}, {letters, []api.Edit{insert, insert, insert}, doc(text("axxxb")), 3, api.OK}, {letters, []api.Edit{remove}, api.Document{}, 0, api.ErrRange}, {letters, []api.Edit{insert, remove, remove, {}}, api.Document{}, 2, api.ErrRange}, {letters, []api.Edit{insert, insert, {}}, api.Document{}, 2, api.ErrKind},
		{tracked, []api.Edit{insert}, api.Document{}, 0, api.ErrMark},
	} {
		out, at, err := edit.Run(c.d, c.l)
		if show(out) != show(c.want) || at != c.at || err != c.e {
			t.Errorf("%d: Run = %+v, %d, %d", i, out, at, err)
		}
	}
}

func TestP17_2RunOfMany(t *testing.T) {
	whole := 0
	many(800, 4, func(r *rand.Rand, d api.Document, e api.Edit) {
		var edits []api.Edit
		want := document.Normal(d)
		failed := api.OK
		for len(edits) < 4 && failed == api.OK {
			for range 5 { // most edits shall be possible
				if naiveCheck(want, e) != api.OK {
					e = samples.Edit(r.IntN, want)
				}
			}
			edits = append(edits, e)
			next, err := edit.Apply(want, e)
			failed = err
			if err == api.OK {
				want = next
			}
		}
		at := len(edits)
		if failed != api.OK {
			want, at = api.Document{}, at-1
		} else {
			whole++
		}
		before := show(d) + show(edits)
		out, got, err := edit.Run(d, edits)
		if show(out) != show(want) || got != at || err != failed {
			t.Fatalf("Run(%+v, %+v) = %+v, %d, %d; want %+v, %d, %d", d, edits, out, got, err, want, at, failed)
		}
		if show(d)+show(edits) != before || !samples.Apart(out, d, edits[0]) {
			t.Fatalf("%s was changed, or shares memory", before)
		}
	})
	if whole < 100 {
		t.Errorf("%d lists of edits were possible", whole)
	}
}

func TestP17_3Words(t *testing.T) {
	for _, l := range lines() {
		if word, e := edit.Word(l.kind); word != l.word || e != api.OK {
			t.Errorf("Word(%d) = %q, %d", l.kind, word, e)
		}
		if kind, e := edit.Find(l.word); kind != l.kind || e != api.OK {
			t.Errorf("Find(%q) = %d, %d", l.word, kind, e)
		}
		if tracked := edit.Tracked(l.kind); tracked != !slices.Contains([]string{"put-anchor", "drop-anchor", "settings"}, l.word) {
			t.Errorf("Tracked(%d) = %v", l.kind, tracked)
		}
	}
	for _, kind := range []int{math.MinInt, -1, 0, 15, 16, math.MaxInt} {
		if word, e := edit.Word(kind); word != "" || e != api.ErrKind || edit.Tracked(kind) {
			t.Errorf("the kind %d: %q, %d, %v", kind, word, e, edit.Tracked(kind))
		}
	}
	for _, word := range []string{"", "Insert", "insert ", "insert-row", "rows", "\xFF"} {
		if kind, e := edit.Find(word); kind != 0 || e != api.ErrUnknown {
			t.Errorf("Find(%q) = %d, %d", word, kind, e)
		}
	}
	if api.EditInsert != 1 || api.EditSettings != len(lines()) {
		t.Error("the kinds are not those of the table")
	}
}

// everything returns an edit in which every field is set.
func everything() api.Edit {
	head := func() api.Head {
		return api.Head{Props: []api.Prop{prop(1, 2)}, Marks: api.Marks{Ins: 1, Dels: []api.Del{{Rev: 3}}, Layers: []api.Layer{{Rev: 4}}}}
	}
	odd := api.Item{Kind: api.Text, Id: 77, Text: "a", Head: head(), Flow: flow(note(78)), Rows: []api.Row{row(cell(79))}}
	return api.Edit{
		Kind: 3, Flow: 4, At: 5, Count: 6, Sub: 7, To: 8, ToAt: 9, Fresh: 10, Key: 11, Value: 12, Clear: true,
		Items:    flow(odd, note(21, para(), table(20, row(cell(23), cell(22, note(24))))), samples.Anchor(1, 80), api.Item{Kind: api.Note, Id: 25, Rows: []api.Row{row(cell(81))}}),
		Rows:     []api.Row{{Head: head(), Cells: []api.Cell{{Id: 31, Head: head(), Flow: flow(note(30))}}}, {}, row(cell(33), cell(32))},
		Cells:    []api.Cell{{Id: 42, Head: head(), Flow: flow(table(41, row(cell(40, api.Item{Kind: api.Table, Id: 43, Flow: flow(note(82))}))))}, cell(0), cell(-5)},
		Settings: api.Settings{Styles: []api.Style{{Id: 1, Props: []api.Prop{prop(2, 3)}}}, Lists: []api.List{{Id: 1, Levels: []api.Level{{Format: 1}}}}, Comments: []api.Comment{{Id: 1}}, Vars: []api.Var{{Name: "a"}}},
	}
}

func TestP17_4Ids(t *testing.T) {
	if ids := edit.Ids(everything()); !slices.Equal(ids, []int{21, 20, 23, 22, 24, 25, 31, 30, 33, 32, 42, 41, 40, 43, 0, -5}) {
		t.Errorf("Ids = %v", ids)
	}
	if ids := edit.Ids(api.Edit{Flow: 1, Fresh: 2, Items: flow(text("a"), samples.Anchor(2, 5))}); len(ids) > 0 {
		t.Errorf("Ids = %v", ids)
	}
	many(1000, 5, func(_ *rand.Rand, d api.Document, e api.Edit) {
		all := doc(e.Items...)
		all.Flow = append(all.Flow, table(0, e.Rows...), table(0, row(e.Cells...)))
		want := slices.DeleteFunc(edit.Ids(api.Edit{Items: all.Flow}), func(id int) bool { return id == 0 }) // the tables around have the id 0
		if ids := edit.Ids(e); !slices.Equal(ids, want) {
			t.Fatalf("Ids(%+v) = %v; want %v", e, ids, want)
		}
		ids := edit.Ids(api.Edit{Items: d.Flow})
		ordered := slices.Sorted(slices.Values(ids))
		if !slices.Equal(ordered, document.Ids(d)) || !slices.Equal(slices.DeleteFunc(ids, func(id int) bool { return slices.Contains(document.Tables(d), id) }), document.Flows(d)[1:]) {
			t.Fatalf("Ids of %+v = %v", d, ids)
		}
	})
}

func TestP17_4EqualAndClone(t *testing.T) {
	e := everything()
	before := show(e)
	if c := edit.Clone(e); show(c) != before || !samples.Apart(c, e) || !edit.Equal(c, e) || !edit.Equal(e, e) {
		t.Errorf("Clone = %+v", c)
	}
	changes := []func(e *api.Edit){
		func(e *api.Edit) { e.Kind = 0 }, func(e *api.Edit) { e.Flow++ }, func(e *api.Edit) { e.At++ }, func(e *api.Edit) { e.Count++ }, func(e *api.Edit) { e.Sub++ }, func(e *api.Edit) { e.To++ }, func(e *api.Edit) { e.ToAt++ }, func(e *api.Edit) { e.Fresh++ }, func(e *api.Edit) { e.Key++ }, func(e *api.Edit) { e.Value++ }, func(e *api.Edit) { e.Clear = false },
		func(e *api.Edit) { e.Items = e.Items[1:] }, func(e *api.Edit) { e.Items[0].Rows[0].Cells[0].Id++ }, func(e *api.Edit) { e.Items[0].Head.Marks.Layers = nil }, func(e *api.Edit) { e.Items[1].Flow[0].Kind = 0 }, func(e *api.Edit) { e.Items[2].Code = 2 },
		func(e *api.Edit) { e.Rows = e.Rows[:2] }, func(e *api.Edit) { e.Rows[0].Head.Marks.Ins = 2 }, func(e *api.Edit) { e.Rows[0].Cells[0].Flow = nil }, func(e *api.Edit) { e.Rows[1].Cells = cells(1, 0) },
		func(e *api.Edit) { e.Cells = nil }, func(e *api.Edit) { e.Cells[0].Head.Props[0].Value++ }, func(e *api.Edit) { e.Cells[0].Head.Marks.Dels[0].Move = 1 }, func(e *api.Edit) { e.Cells[1].Flow = flow(para()) },
		func(e *api.Edit) { e.Settings.Styles[0].Props[0].Value++ }, func(e *api.Edit) { e.Settings.Lists[0].Levels[0].Start = 1 }, func(e *api.Edit) { e.Settings.Comments = nil }, func(e *api.Edit) { e.Settings.Vars[0].Value = "b" },
		func(e *api.Edit) { e.Rows, e.Cells = append(e.Rows, row(e.Cells...)), nil }, // other slices with the same elements
		func(e *api.Edit) { e.Rows, e.Items = nil, append(e.Items, table(0, e.Rows...)) },
	}
	for i, change := range changes {
		c := edit.Clone(e)
		change(&c)
		if edit.Equal(c, e) || edit.Equal(e, c) {
			t.Errorf("%d: Equal", i)
		}
		if show(e) != before {
			t.Fatalf("%d: the copy shares memory", i)
		}
	}
	empty := api.Edit{Items: flow(), Rows: []api.Row{}, Cells: []api.Cell{}, Settings: api.Settings{Styles: []api.Style{}, Lists: []api.List{}, Comments: []api.Comment{}, Vars: []api.Var{}}}
	if !edit.Equal(empty, api.Edit{}) || !edit.Equal(edit.Clone(empty), empty) || !edit.Equal(edit.Clone(api.Edit{}), api.Edit{}) {
		t.Error("nil and empty slices are different")
	}
	many(1000, 6, func(_ *rand.Rand, d api.Document, e api.Edit) {
		other := e
		other.Items = d.Flow
		if c := edit.Clone(e); show(c) != show(e) || !samples.Apart(c, e) || edit.Equal(e, other) != (show(e) == show(other)) {
			t.Fatalf("Clone(%+v) = %+v", e, c)
		}
	})
}

func TestP17_5Results(t *testing.T) {
	many(6000, 7, func(_ *rand.Rand, d api.Document, e api.Edit) {
		got, err := edit.Apply(d, e)
		if err != api.OK {
			return
		}
		if document.Check(got) != api.OK || !document.Plain(got) || !document.Equal(got, document.Normal(got)) {
			t.Fatalf("Apply(%+v, %+v) = %+v, which has the error %d", d, e, got, document.Check(got))
		}
		if e.Kind == api.EditFormat || e.Kind >= api.EditFormatRow && e.Kind <= api.EditFormatCell || e.Kind == api.EditFormatEnd {
			if again, err := edit.Apply(got, e); !document.Equal(again, got) || err != api.OK {
				t.Fatalf("%+v of %+v, a second time: %+v, %d", e, got, again, err)
			}
		}
		if e.Kind == api.EditInsert {
			count := len(samples.Units(e.Items))
			if back, err := edit.Apply(got, api.Edit{Kind: api.EditDelete, Flow: e.Flow, At: e.At, Count: count}); !document.Equal(back, document.Normal(d)) || err != api.OK {
				t.Fatalf("%+v of %+v and back: %+v, %d", e, d, back, err)
			}
		}
		before, after := anchorsOf(d), anchorsOf(got)
		for id, anchors := range before {
			now, is := after[id]
			if e.Kind == api.EditPutAnchor && id == e.Flow {
				i := slices.IndexFunc(now, func(s string) bool { return s == show(e.Items[0]) })
				now = slices.Delete(slices.Clone(now), i, i+1)
				anchors, now = slices.Sorted(slices.Values(anchors)), slices.Sorted(slices.Values(now))
			}
			if is && e.Kind != api.EditDropAnchor && !slices.Equal(anchors, now) {
				t.Fatalf("%+v of %+v: the anchors %v of the flow %d became %v", e, d, anchors, id, now)
			}
		}
	})
}

// TestP17_5MovesBack moves units without anchors to other places and back.
func TestP17_5MovesBack(t *testing.T) {
	moves := make(map[bool]int)
	many(30000, 8, func(_ *rand.Rand, d api.Document, e api.Edit) {
		if e.Kind != api.EditMove || edit.Check(d, e) != api.OK {
			return
		}
		l, _ := document.Flow(d, e.Flow)
		if slices.ContainsFunc(samples.Units(l)[e.At:e.At+e.Count], func(u api.Item) bool { return u.Kind == api.Anchor }) {
			return
		}
		back := api.Edit{Kind: api.EditMove, Flow: e.To, At: e.ToAt, Count: e.Count, To: e.Flow, ToAt: e.At, Fresh: 1 << 20}
		if e.To == e.Flow && e.ToAt > e.At {
			back.At -= e.Count
		} else if e.To == e.Flow {
			back.ToAt += e.Count
		}
		there, _ := edit.Apply(d, e)
		got, err := edit.Apply(there, back)
		if !document.Same(got, d) || err != api.OK || document.Units(there) != document.Units(d) {
			t.Fatalf("%+v of %+v and back: %+v, %d", e, d, got, err)
		}
		moves[e.To == e.Flow]++
	})
	if moves[true] < 50 || moves[false] < 50 {
		t.Errorf("%v moves", moves)
	}
}

// TestP17_5Large edits a document of the greatest size.
func TestP17_5Large(t *testing.T) {
	d := doc(text(strings.Repeat("ab", api.MaxUnits/2-50)), para())
	for range 90 {
		next, err := edit.Apply(d, api.Edit{Kind: api.EditInsert, At: len(samples.Units(d.Flow)) / 2, Items: flow(text("x", prop(api.KeyBold, 1)))})
		if err != api.OK {
			t.Fatalf("insert = %d", err)
		}
		d = next
	}
	if got, err := edit.Apply(d, api.Edit{Kind: api.EditFormat, Count: document.Units(d), Key: api.KeyBold, Value: 1}); err != api.OK || len(got.Flow) != 2 {
		t.Errorf("format = %d", err)
	}
}
