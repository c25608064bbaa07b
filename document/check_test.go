package document_test

import (
	"math"
	"math/rand/v2"
	"slices"
	"strings"
	"testing"

	"obelus/api"
	"obelus/document"
	"obelus/run"
	"obelus/samples"
)

// step makes a document wrong in one place.
type step struct {
	what string
	do   func(d *api.Document)
	want api.Errno
}

// checkOrder checks documents with each one, and with each two, of some steps, of which the first ones are found first.
func checkOrder(t *testing.T, good func() api.Document, steps []step) {
	t.Helper()
	if e := document.Check(good()); e != api.OK {
		t.Fatalf("Check of the document without any step = %d", e)
	}
	for i, first := range steps {
		d := good()
		first.do(&d)
		if e := document.Check(d); e != first.want {
			t.Errorf("%s: %d; want %d", first.what, e, first.want)
		}
		for _, second := range steps[i+1:] {
			d := good()
			second.do(&d)
			first.do(&d)
			if e := document.Check(d); e != first.want {
				t.Errorf("%s, %s: %d; want %d", first.what, second.what, e, first.want)
			}
		}
	}
}

func long(count int) string { return strings.Repeat("a", count) }

// settled returns a document without items that has everything else.
func settled() api.Document {
	level := api.Level{Format: api.Decimal, Start: 1, Template: "%1."}
	return api.Document{
		Revs: []api.Rev{{Id: 1, Author: "Ann", Time: 5}, {Id: 2, Author: long(40), Time: api.MaxTime}, {Id: api.MaxId, Author: "\u00e9"}},
		Settings: api.Settings{
			Styles:   []api.Style{{Id: 1, Kind: api.ParaStyle, Name: "Normal"}, {Id: 2, Kind: api.CharStyle, Name: "Code"}},
			Lists:    []api.List{{Id: 1, Levels: []api.Level{level}}, {Id: api.MaxId, Levels: []api.Level{level}}},
			Comments: []api.Comment{{Id: 1, Author: "Ann", Time: 5}, {Id: 2, Parent: 1, Author: long(40), Time: api.MaxTime, Text: long(1024)}, {Id: api.MaxId, Parent: 1, Author: "\u00e9"}},
			Vars:     []api.Var{{Name: "A"}, {Name: "a", Value: long(1024)}, {Name: "a-"}},
		},
	}
}

// fill appends elements, each made of its number in the list, up to a number of them.
func fill[T any](l []T, count int, element func(i int) T) []T {
	l = slices.Clone(l)
	for len(l) < count {
		l = append(l, element(len(l)))
	}
	return l
}

func TestP13_1OrderOfSettings(t *testing.T) {
	checkOrder(t, settled, []step{
		{"a style without an id", func(d *api.Document) { d.Settings.Styles[0].Id = 0 }, api.ErrId},
		{"a base that is not there", func(d *api.Document) { d.Settings.Styles[1].Base = 9 }, api.ErrStyle},
		{"65 lists", func(d *api.Document) {
			d.Settings.Lists = fill(d.Settings.Lists, 65, func(int) api.List { return api.List{} })
		}, api.ErrLimit},
		{"a list without an id", func(d *api.Document) { d.Settings.Lists[0].Id = 0 }, api.ErrId},
		{"a list without levels", func(d *api.Document) { d.Settings.Lists[0].Levels = nil }, api.ErrEmpty},
		{"a list with the id of the one before", func(d *api.Document) { d.Settings.Lists[1].Id = 1 }, api.ErrDuplicate},
		{"a level with a wrong format", func(d *api.Document) { d.Settings.Lists[1].Levels[0].Format = 0 }, api.ErrKind},
		{"1025 comments", func(d *api.Document) {
			d.Settings.Comments = fill(d.Settings.Comments, 1025, func(int) api.Comment { return api.Comment{} })
		}, api.ErrLimit},
		{"a comment without an id", func(d *api.Document) { d.Settings.Comments[0].Id = -1 }, api.ErrId},
		{"a reply to itself", func(d *api.Document) { d.Settings.Comments[0].Parent = 1 }, api.ErrNotFound},
		{"a comment without an author", func(d *api.Document) { d.Settings.Comments[0].Author = "" }, api.ErrAuthor},
		{"a comment before all times", func(d *api.Document) { d.Settings.Comments[0].Time = -1 }, api.ErrTime},
		{"a comment that is not UTF-8, and long", func(d *api.Document) { d.Settings.Comments[0].Text = long(1024) + "\xFF" }, api.ErrUTF8},
		{"a comment with the id of the one before", func(d *api.Document) { d.Settings.Comments[1].Id = 1 }, api.ErrDuplicate},
		{"a comment that is too long", func(d *api.Document) { d.Settings.Comments[1].Text = long(1025) }, api.ErrLong},
		{"129 variables", func(d *api.Document) {
			d.Settings.Vars = fill(d.Settings.Vars, 129, func(int) api.Var { return api.Var{} })
		}, api.ErrLimit},
		{"a variable without a name", func(d *api.Document) { d.Settings.Vars[0].Name = "" }, api.ErrName},
		{"a value that is not UTF-8, and long", func(d *api.Document) { d.Settings.Vars[0].Value = long(1024) + "\xFF" }, api.ErrUTF8},
		{"a variable with the name of the one before", func(d *api.Document) { d.Settings.Vars[1].Name = "A" }, api.ErrDuplicate},
		{"a value that is too long", func(d *api.Document) { d.Settings.Vars[1].Value = long(1025) }, api.ErrLong},
		{"257 revisions", func(d *api.Document) { d.Revs = fill(d.Revs, 257, func(int) api.Rev { return api.Rev{} }) }, api.ErrLimit},
		{"a revision without an id", func(d *api.Document) { d.Revs[0].Id = 0 }, api.ErrId},
		{"a revision without an author", func(d *api.Document) { d.Revs[0].Author = "" }, api.ErrAuthor},
		{"a revision behind all times", func(d *api.Document) { d.Revs[0].Time = api.MaxTime + 1 }, api.ErrTime},
		{"a revision with the id of the one before", func(d *api.Document) { d.Revs[1].Id = 1 }, api.ErrDuplicate},
		{"a last section with a wrong key", func(d *api.Document) { d.End.Props = []api.Prop{prop(api.KeyBold, 1)} }, api.ErrKey},
		{"a last section with an unknown revision", func(d *api.Document) { d.End.Marks.Dels = []api.Del{{Rev: 5}} }, api.ErrRevision},
		{"a last section with an insertion", func(d *api.Document) { d.End.Marks.Ins = 1 }, api.ErrMark},
		{"an item of no kind", func(d *api.Document) { d.Flow = append(d.Flow, api.Item{}) }, api.ErrKind},
		{"too many units", func(d *api.Document) { d.Flow = append(d.Flow, text(long(api.MaxUnits+1))) }, api.ErrLimit},
	})
}

func TestP13_1Settings(t *testing.T) {
	style := func(i int) api.Style {
		return api.Style{Id: i + 1, Kind: api.CharStyle, Name: "s" + strings.Repeat("x", i%32) + strings.Repeat("y", i/32)}
	}
	list := func(i int) api.List {
		return api.List{Id: i + 1, Levels: []api.Level{{Format: 1, Template: "%1"}}}
	}
	comment := func(i int) api.Comment { return api.Comment{Id: i + 1, Author: "a", Parent: i} }
	variable := func(i int) api.Var { return api.Var{Name: "v" + strings.Repeat("x", i%32) + strings.Repeat("y", i/32)} }
	vars := fill(nil, 128, variable)
	slices.SortFunc(vars, func(a, b api.Var) int { return strings.Compare(a.Name, b.Name) })
	comments := func(l ...api.Comment) api.Settings { return api.Settings{Comments: l} }
	named := func(l ...string) api.Settings {
		return api.Settings{Vars: fill(nil, len(l), func(i int) api.Var { return api.Var{Name: l[i]} })}
	}
	for i, c := range []struct {
		s    api.Settings
		want api.Errno
	}{
		{api.Settings{}, api.OK}, {settled().Settings, api.OK},
		{api.Settings{Styles: fill(nil, 128, style), Lists: fill(nil, 64, list), Comments: fill(nil, 1024, comment), Vars: vars}, api.OK},
		{api.Settings{Styles: make([]api.Style, 129)}, api.ErrLimit},
		{api.Settings{Lists: fill(nil, 65, list)}, api.ErrLimit}, {api.Settings{Comments: fill(nil, 1025, comment)}, api.ErrLimit}, {api.Settings{Vars: make([]api.Var, 129)}, api.ErrLimit},
		{api.Settings{Lists: []api.List{list(1), list(0)}}, api.ErrOrder}, {api.Settings{Lists: []api.List{list(api.MaxId)}}, api.ErrId}, {api.Settings{Lists: []api.List{list(0), list(1), list(0)}}, api.ErrOrder},
		{api.Settings{Lists: []api.List{{Id: 1, Levels: make([]api.Level, 10)}}}, api.ErrLimit}, {api.Settings{Lists: []api.List{{Id: 1, Levels: []api.Level{{Format: 1, Template: "%2"}}}}}, api.ErrOrder},
		{comments(comment(1), comment(0)), api.ErrNotFound}, {comments(comment(0), api.Comment{Id: 5, Author: "a"}, comment(2)), api.ErrOrder}, {comments(comment(api.MaxId)), api.ErrId},
		{comments(comment(0), api.Comment{Id: 3, Parent: 3, Author: "a"}), api.ErrNotFound}, {comments(comment(0), api.Comment{Id: 3, Parent: -1, Author: "a"}), api.ErrNotFound}, {comments(comment(0), api.Comment{Id: 3, Parent: 4, Author: "a"}, comment(3)), api.ErrNotFound},
		{comments(api.Comment{Id: 1, Author: long(41)}), api.ErrAuthor}, {comments(api.Comment{Id: 1, Author: "\xC3"}), api.ErrAuthor}, {comments(api.Comment{Id: 1, Author: strings.Repeat("\u00e9", 20)}), api.OK}, {comments(api.Comment{Id: 1, Author: strings.Repeat("\u00e9", 20) + "a"}), api.ErrAuthor},
		{comments(api.Comment{Id: 1, Author: "a", Time: api.MaxTime + 1}), api.ErrTime}, {comments(api.Comment{Id: 1, Author: "a", Time: math.MinInt}), api.ErrTime}, {comments(api.Comment{Id: 1, Author: "a", Text: strings.Repeat("\u00e9", 513)}), api.ErrLong},
		{comments(api.Comment{Id: 1, Author: "a", Text: "\xED\xA0\x80"}), api.ErrUTF8},
		{named("a", "a"), api.ErrDuplicate}, {named("a", "A"), api.ErrOrder}, {named("A", "a", "a1", "a_", "aa"), api.OK}, {named("a_", "a1"), api.ErrOrder}, {named("a", "b", "a"), api.ErrOrder}, {named("b", "1a"), api.ErrName}, {named("b", ""), api.ErrName},
		{named(long(40)), api.OK}, {named(long(41)), api.ErrName}, {named("a b"), api.ErrName}, {named("\u00e9"), api.ErrName},
	} {
		if e := document.CheckSettings(c.s); e != c.want {
			t.Errorf("%d: CheckSettings = %d; want %d", i, e, c.want)
		}
		if e := document.Check(api.Document{Settings: c.s}); e != c.want {
			t.Errorf("%d: Check = %d; want %d", i, e, c.want)
		}
	}
}

func TestP13_1Revisions(t *testing.T) {
	rev := func(i int) api.Rev { return api.Rev{Id: i + 1, Author: "a"} }
	for i, c := range []struct {
		l    []api.Rev
		want api.Errno
	}{
		{nil, api.OK}, {fill(nil, 256, rev), api.OK}, {fill(nil, 257, rev), api.ErrLimit}, {[]api.Rev{rev(api.MaxId)}, api.ErrId}, {[]api.Rev{rev(-2)}, api.ErrId}, {[]api.Rev{rev(0), rev(0)}, api.ErrDuplicate}, {[]api.Rev{rev(1), rev(0)}, api.ErrOrder}, {[]api.Rev{rev(0), rev(1), rev(0)}, api.ErrOrder},
		{[]api.Rev{{Id: 1, Author: long(41)}}, api.ErrAuthor}, {[]api.Rev{{Id: 1, Author: "\xFF"}}, api.ErrAuthor}, {[]api.Rev{{Id: 1, Author: "a", Time: -1}}, api.ErrTime}, {[]api.Rev{{Id: 1, Author: "a", Time: api.MaxTime}}, api.OK},
	} {
		if e := document.Check(api.Document{Revs: c.l}); e != c.want {
			t.Errorf("%d: Check = %d; want %d", i, e, c.want)
		}
	}
}

// item is a step for the only item of a document.
func item(what string, want api.Errno, do func(i *api.Item)) step {
	return step{what, func(d *api.Document) { do(&d.Flow[0]) }, want}
}

// withItem returns what makes a document with one item.
func withItem(one func() api.Item) func() api.Document {
	return func() api.Document {
		d := settled()
		d.Flow = flow(one())
		return d
	}
}

func wrongHead(h *api.Head) { h.Props = []api.Prop{prop(99, 1)} }
func wrongFlow() []api.Item { return flow(api.Item{}) }

func TestP13_1OrderOfItems(t *testing.T) {
	head := item("a head with an unknown key", api.ErrKey, func(i *api.Item) { wrongHead(&i.Head) })
	code := item("a code that is not used", api.ErrFormat, func(i *api.Item) { i.Code = 1 })
	inner := item("a flow that is not used", api.ErrFormat, func(i *api.Item) { i.Flow = flow(para()) })
	rows := item("rows that are not used", api.ErrFormat, func(i *api.Item) { i.Rows = []api.Row{{}} })
	unused := item("a text that is not used", api.ErrFormat, func(i *api.Item) { i.Text = "\xFF" })
	id := item("an id that is not used", api.ErrFormat, func(i *api.Item) { i.Id = -1 })
	none := item("no kind", api.ErrKind, func(i *api.Item) { i.Kind = 9 })
	noId := item("an id over the limit", api.ErrId, func(i *api.Item) { i.Id = api.MaxId + 1 })
	wrongCode := item("a wrong code", api.ErrKind, func(i *api.Item) { i.Code = -1 })
	invalid := item("a text that is not UTF-8", api.ErrUTF8, func(i *api.Item) { i.Text = long(1025) + "\xFF" })
	checkOrder(t, withItem(func() api.Item { return text("a") }), []step{none, code, invalid, head})
	checkOrder(t, withItem(func() api.Item { return text("a") }), []step{none, id, item("no text", api.ErrEmpty, func(i *api.Item) { i.Text = "" }), head})
	checkOrder(t, withItem(func() api.Item { return field("a") }), []step{inner, item("no text", api.ErrEmpty, func(i *api.Item) { i.Text = "" }), head})
	checkOrder(t, withItem(func() api.Item { return field("a") }), []step{rows, invalid, head})
	checkOrder(t, withItem(func() api.Item { return field("a") }), []step{id, item("a long text", api.ErrLong, func(i *api.Item) { i.Text = long(1025) }), head})
	checkOrder(t, withItem(func() api.Item { return para() }), []step{none, unused, head})
	checkOrder(t, withItem(func() api.Item { return api.Item{Kind: api.Break, Code: 1} }), []step{wrongCode, id, head})
	checkOrder(t, withItem(func() api.Item { return note(1) }), []step{wrongCode, unused, noId, head, item("a wrong flow", api.ErrKind, func(i *api.Item) { i.Flow = wrongFlow() })})
	checkOrder(t, withItem(func() api.Item { return anchor(api.BookmarkEnd, 1) }), []step{wrongCode, unused, noId, head})
	start := func() api.Item { return api.Item{Kind: api.Anchor, Code: api.BookmarkStart, Id: 1, Text: "a"} }
	checkOrder(t, withItem(start), []step{wrongCode, rows, invalid, noId, head})
	checkOrder(t, withItem(start), []step{wrongCode, inner, item("no name", api.ErrName, func(i *api.Item) { i.Text = "" }), noId, head})
	cellOf := func(i *api.Item) *api.Cell { return &i.Rows[0].Cells[0] }
	checkOrder(t, withItem(func() api.Item { return table(1, row(cell(2), cell(3)), row(cell(4))) }), []step{
		none, code, unused, noId, head,
		item("257 rows", api.ErrLimit, func(i *api.Item) { i.Rows = append(i.Rows, make([]api.Row, 255)...) }),
		item("a row with an unknown key", api.ErrKey, func(i *api.Item) { wrongHead(&i.Rows[0].Head) }),
		item("33 cells", api.ErrLimit, func(i *api.Item) { i.Rows[0].Cells = append(i.Rows[0].Cells, make([]api.Cell, 31)...) }),
		item("a cell with the id of its table", api.ErrDuplicate, func(i *api.Item) { cellOf(i).Id = 1 }),
		item("a cell with an unknown key", api.ErrKey, func(i *api.Item) { wrongHead(&cellOf(i).Head) }),
		item("a cell with a wrong flow", api.ErrEmpty, func(i *api.Item) { cellOf(i).Flow = flow(text("")) }),
		item("a cell with a wrong id", api.ErrId, func(i *api.Item) { i.Rows[0].Cells[1].Id = 0 }),
		item("a row without cells", api.ErrEmpty, func(i *api.Item) { i.Rows[1].Cells = nil }),
		{"a wrong item behind the table", func(d *api.Document) { d.Flow = append(d.Flow, api.Item{}) }, api.ErrKind},
	})
	checkOrder(t, withItem(func() api.Item { return table(1, row(cell(2))) }), []step{head, item("no rows", api.ErrEmpty, func(i *api.Item) { i.Rows = nil })})
	checkOrder(t, withItem(func() api.Item { return table(1, row(cell(2))) }), []step{
		item("a row with an unknown revision", api.ErrRevision, func(i *api.Item) { i.Rows[0].Head.Marks.Ins = 7 }),
		item("a row without cells", api.ErrEmpty, func(i *api.Item) { i.Rows[0].Cells = nil }),
	})
	inside := func(l ...api.Item) func() api.Document {
		return withItem(func() api.Item { return note(1, run.Clone(l)...) })
	}
	checkOrder(t, inside(para()), []step{
		item("a section with a field", api.ErrFormat, func(i *api.Item) { i.Flow = flow(section()); i.Flow[0].Code = 1 }),
		item("a section in a note", api.ErrFlow, func(i *api.Item) { i.Flow[0].Kind = api.Section }),
		item("a paragraph with an unknown key", api.ErrKey, func(i *api.Item) { wrongHead(&i.Flow[0].Head) }),
	})
	checkOrder(t, inside(para(), table(2, row(cell(3, para())))), []step{
		item("a note in a note without an id", api.ErrFlow, func(i *api.Item) { i.Flow[0] = note(0) }),
		item("a note in a table in a note", api.ErrFlow, func(i *api.Item) { cellOf(&i.Flow[1]).Flow[0] = note(0) }),
	})
}

// TestP13_1Fields checks items of all kinds with each field that they use or do not use.
func TestP13_1Fields(t *testing.T) {
	codes := map[int]int{api.Break: 3, api.Note: 2, api.Anchor: 4}
	rows := []api.Row{row(cell(8))}
	for kind := -1; kind < 12; kind++ {
		for code := -1; code < 7; code++ {
			good := api.Item{Kind: kind, Code: code}
			isStart := kind == api.Anchor && code == api.BookmarkStart
			hasText := kind == api.Text || kind == api.Field || isStart
			hasId := kind == api.Note || kind == api.Table || kind == api.Anchor
			if hasText {
				good.Text = "a"
			}
			if hasId {
				good.Id = 7
			}
			if kind == api.Table {
				good.Rows = rows
			}
			want := api.OK
			if most, has := codes[kind]; kind < 1 || kind > 8 || has && (code < 1 || code > most) {
				want = api.ErrKind
			} else if !has && code != 0 {
				want = api.ErrFormat
			}
			full := good
			full.Text, full.Id, full.Flow, full.Rows = "a", 7, flow(para()), rows
			wantFull := want
			if want == api.OK {
				wantFull = api.ErrFormat // each kind leaves some field empty
			}
			flowed, rowed, named, numbered := good, good, good, good
			flowed.Flow, rowed.Rows, named.Text, numbered.Id = flow(para()), rows, "a", 7
			for i, c := range []struct {
				item api.Item
				uses bool
			}{{good, true}, {flowed, kind == api.Note}, {rowed, kind == api.Table}, {named, hasText}, {numbered, hasId}} {
				expected := want
				if want == api.OK && !c.uses {
					expected = api.ErrFormat
				}
				if e := document.Check(doc(c.item)); e != expected {
					t.Errorf("%d: Check(%+v) = %d; want %d", i, c.item, e, expected)
				}
			}
			if e := document.Check(doc(full)); e != wantFull {
				t.Errorf("Check(%+v) = %d; want %d", full, e, wantFull)
			}
			empty := good
			empty.Flow, empty.Rows = flow(), []api.Row{}
			if e := document.Check(doc(empty)); kind != api.Table && e != want {
				t.Errorf("Check(%+v) = %d; want %d", empty, e, want)
			}
		}
	}
}

// nested returns a number of tables within one another, around some items; ids are from first on.
func nested(count, first int, l ...api.Item) []api.Item {
	for i := range count {
		l = flow(table(first+2*i, row(cell(first+2*i+1, l...))))
	}
	return l
}

func TestP13_1Items(t *testing.T) {
	named := func(name string) api.Item {
		return api.Item{Kind: api.Anchor, Code: api.BookmarkStart, Id: 1, Text: name}
	}
	for i, c := range []struct {
		l    []api.Item
		want api.Errno
	}{
		{flow(text("\xC3"), text("\xA9")), api.ErrUTF8}, {flow(text("\x00\n\uFFFD\U0010FFFF")), api.OK}, {flow(field("\xFF")), api.ErrUTF8}, {flow(text("")), api.ErrEmpty}, {flow(field("")), api.ErrEmpty},
		{flow(field(long(1024))), api.OK}, {flow(field(strings.Repeat("\u00e9", 513))), api.ErrLong}, {flow(text(long(1025))), api.OK},
		{flow(named("a-_9")), api.OK}, {flow(named(long(40))), api.OK}, {flow(named(long(41))), api.ErrName}, {flow(named("9")), api.ErrName}, {flow(named("\u00e9")), api.ErrName}, {flow(named("")), api.ErrName},
		{flow(section(), section()), api.OK}, {flow(note(1, section())), api.ErrFlow}, {flow(table(1, row(cell(2, section())))), api.ErrFlow}, {flow(note(1, table(2, row(cell(3, section()))))), api.ErrFlow},
		{flow(note(1, para(), note(2))), api.ErrFlow}, {flow(note(1, table(2, row(cell(3, note(4)))))), api.ErrFlow}, {flow(note(1, nested(3, 10, note(4))...)), api.ErrFlow}, {flow(table(1, row(cell(2, note(3, text("a"))))), note(4)), api.OK},
		{nested(4, 1, para(), note(20)), api.OK}, {nested(5, 1), api.ErrDepth}, {nested(4, 1, para(), note(20, table(21, row(cell(22))))), api.ErrDepth}, {nested(3, 1, note(20, table(21, row(cell(22))))), api.OK}, {flow(note(20, nested(4, 1)...)), api.OK}, {flow(note(20, nested(5, 1)...)), api.ErrDepth},
		{slices.Concat(nested(4, 1), nested(4, 10), flow(note(30)), nested(4, 20)), api.OK}, {nested(2, 1, slices.Concat(nested(2, 10), nested(3, 20))...), api.ErrDepth}, {nested(9, 0), api.ErrDepth},
		{flow(note(0)), api.ErrId}, {flow(note(-1)), api.ErrId}, {flow(note(api.MaxId)), api.OK}, {flow(note(api.MaxId + 1)), api.ErrId}, {flow(table(0, row(cell(1)))), api.ErrId}, {flow(table(math.MinInt, row(cell(1)))), api.ErrId}, {flow(table(api.MaxId+1, row(cell(1)))), api.ErrId}, {flow(table(1, row(cell(api.MaxId)))), api.OK},
		{flow(table(1, row(cell(0)))), api.ErrId}, {flow(table(1, row(cell(api.MaxId+1)))), api.ErrId}, {flow(anchor(2, 0)), api.ErrId}, {flow(anchor(2, api.MaxId+1)), api.ErrId}, {flow(anchor(2, api.MaxId), anchor(2, api.MaxId), anchor(4, 1), anchor(3, 1)), api.OK},
		{flow(note(1), note(1)), api.ErrDuplicate}, {flow(note(2), note(1)), api.OK}, {flow(note(1), table(1, row(cell(2)))), api.ErrDuplicate}, {flow(table(1, row(cell(1)))), api.ErrDuplicate}, {flow(table(1, row(cell(2), cell(2)))), api.ErrDuplicate}, {flow(table(1, row(cell(2)), row(cell(3), cell(2)))), api.ErrDuplicate},
		{flow(table(1, row(cell(2, note(2))))), api.ErrDuplicate}, {flow(table(1, row(cell(2, note(3)), cell(3)))), api.ErrDuplicate}, {flow(note(1, table(2, row(cell(1))))), api.ErrDuplicate}, {flow(note(3), para(), note(1), note(2), table(4, row(cell(3)))), api.ErrDuplicate},
		{flow(anchor(2, 1), note(1), anchor(2, 1)), api.OK}, {flow(anchor(2, 1), table(2, row(cell(1, anchor(2, 2))))), api.OK},
		{flow(table(1)), api.ErrEmpty}, {flow(table(1, row())), api.ErrEmpty}, {flow(table(1, row(cell(2)), row())), api.ErrEmpty},
		{flow(table(1, fill(nil, 256, func(i int) api.Row { return row(cell(i + 2)) })...)), api.OK}, {flow(table(1, fill(nil, 257, func(i int) api.Row { return row(cell(i + 2)) })...)), api.ErrLimit},
		{flow(table(1, row(fill(nil, 32, func(i int) api.Cell { return cell(i + 2) })...))), api.OK}, {flow(table(1, row(fill(nil, 33, func(i int) api.Cell { return cell(i + 2) })...))), api.ErrLimit},
	} {
		if e := document.Check(doc(c.l...)); e != c.want {
			t.Errorf("%d: Check(%+v) = %d; want %d", i, c.l, e, c.want)
		}
		if e := document.CheckInsert(doc(para()), 0, c.l); e != c.want {
			t.Errorf("%d: CheckInsert(%+v) = %d; want %d", i, c.l, e, c.want)
		}
	}
}

func TestP13_1Units(t *testing.T) {
	most := strings.Repeat("\u00e9", api.MaxUnits-4)
	full := flow(text(most), note(1, text("a")), table(2, row(cell(3, para()))))
	if e := document.Check(doc(full...)); e != api.OK {
		t.Errorf("Check of %d units = %d", api.MaxUnits, e)
	}
	for _, more := range [][]api.Item{flow(text("a")), flow(para()), flow(anchor(2, 1)), flow(note(9)), flow(table(8, row(cell(9))))} {
		if e := document.Check(doc(append(slices.Clone(full), more...)...)); e != api.ErrLimit {
			t.Errorf("Check with %+v = %d", more, e)
		}
		if e := document.CheckInsert(doc(full...), 3, more); e != api.ErrLimit {
			t.Errorf("CheckInsert of %+v = %d", more, e)
		}
		if e := document.CheckInsert(doc(full[1:]...), 3, more); e != api.OK {
			t.Errorf("CheckInsert of %+v into less = %d", more, e)
		}
	}
	if e := document.CheckInsert(doc(full...), 3, nil); e != api.OK {
		t.Errorf("CheckInsert of nothing = %d", e)
	}
	if e := document.Check(doc(text(most), table(1, row(cell(2, text("ab"), note(3, text("ab"))))))); e != api.ErrLimit {
		t.Errorf("Check = %d", e)
	}
}

// TestP13_1Valid checks that documents of all forms are valid.
func TestP13_1Valid(t *testing.T) {
	kinds := make(map[int]int)
	many(2000, 12, func(r *rand.Rand, d api.Document) {
		before := full(d)
		if e, f := document.Check(d), document.CheckSettings(d.Settings); e != api.OK || f != api.OK {
			t.Fatalf("Check(%+v) = %d, %d", d, e, f)
		}
		for _, p := range parts(d.Flow, 0) {
			kinds[p.kind]++
		}
		if full(d) != before {
			t.Fatalf("Check changed %s to %s", before, full(d))
		}
	})
	for kind := 1; kind <= 10; kind++ {
		if kinds[kind] < 100 {
			t.Errorf("there are %d elements of the kind %d", kinds[kind], kind)
		}
	}
}

func dels(count int) []api.Del {
	return fill(nil, count, func(i int) api.Del { return api.Del{Rev: i + 1} })
}

func layers(count int) []api.Layer {
	return fill(nil, count, func(i int) api.Layer { return api.Layer{Rev: 1 + i%2, Key: api.KeyBold, Had: true} })
}

// headed returns what makes a document with a paragraph mark with every mark.
func headed() api.Document {
	d := settled()
	d.Revs = fill(nil, 20, func(i int) api.Rev { return api.Rev{Id: i + 1, Author: "a"} })
	d.Flow = flow(para(prop(api.KeyCharStyle, 2), prop(api.KeyParaStyle, 1), prop(api.KeyList, 1)))
	d.Flow[0].Head.Marks = api.Marks{Ins: 1, Move: 1, Dels: []api.Del{{Rev: 1, Move: api.MaxId}, {Rev: 2}}, Layers: []api.Layer{
		{Rev: 2, Key: api.KeyCharStyle, Before: 2, Had: true}, {Rev: 1, Key: api.KeyCharStyle}, {Rev: 1, Key: api.KeyBold, Before: 1, Had: true}, {Rev: 1, Key: api.KeyParaStyle, Before: 1, Had: true}, {Rev: 1, Key: api.KeyList, Before: 1, Had: true},
	}}
	return d
}

func TestP13_1OrderOfHeads(t *testing.T) {
	marks := func(what string, want api.Errno, do func(m *api.Marks)) step {
		return item(what, want, func(i *api.Item) { do(&i.Head.Marks) })
	}
	checkOrder(t, headed, []step{
		item("an unknown key", api.ErrKey, func(i *api.Item) { i.Head.Props = append(i.Head.Props, prop(99, 0)) }),
		item("an unknown character style", api.ErrStyle, func(i *api.Item) { i.Head.Props[0].Value = 1 }),
		item("an unknown paragraph style", api.ErrStyle, func(i *api.Item) { i.Head.Props[1].Value = 2 }),
		item("an unknown list", api.ErrList, func(i *api.Item) { i.Head.Props[2].Value = 2 }),
		marks("an insertion by an unknown revision", api.ErrRevision, func(m *api.Marks) { m.Ins = 21 }),
		marks("a negative move", api.ErrMark, func(m *api.Marks) { m.Move = -1 }),
		marks("17 deletions", api.ErrLimit, func(m *api.Marks) { m.Dels = append(m.Dels, make([]api.Del, 15)...) }),
		marks("a deletion by an unknown revision", api.ErrRevision, func(m *api.Marks) { m.Dels[0].Rev = 0 }),
		marks("a deletion with a wrong move", api.ErrMark, func(m *api.Marks) { m.Dels[0].Move = api.MaxId + 1 }),
		marks("two deletions by a revision", api.ErrOrder, func(m *api.Marks) { m.Dels[1].Rev = 1 }),
		marks("a second deletion with a wrong move", api.ErrMark, func(m *api.Marks) { m.Dels[1].Move = -1 }),
		marks("65 layers", api.ErrLimit, func(m *api.Marks) { m.Layers = append(m.Layers, make([]api.Layer, 60)...) }),
		marks("a layer of an unknown revision", api.ErrRevision, func(m *api.Marks) { m.Layers[1].Rev = 0 }),
		marks("a layer with a key of sections", api.ErrKey, func(m *api.Marks) { m.Layers[1].Key = api.KeyTop }),
		marks("a layer with a value that was not there", api.ErrMark, func(m *api.Marks) { m.Layers[1].Before = 1 }),
		marks("layers whose keys decrease", api.ErrOrder, func(m *api.Marks) { m.Layers[2].Key, m.Layers[1].Key = api.KeyCharStyle, api.KeyBold }),
		marks("a layer with a wrong value", api.ErrValue, func(m *api.Marks) { m.Layers[2].Before = 2 }),
		marks("a layer with an unknown style", api.ErrStyle, func(m *api.Marks) { m.Layers[3].Before = 2 }),
		marks("a layer with an unknown list", api.ErrList, func(m *api.Marks) { m.Layers[4].Before = 3 }),
	})
}

func TestP13_1Heads(t *testing.T) {
	layer := func(rev, key, before int, had bool) api.Layer {
		return api.Layer{Rev: rev, Key: key, Before: before, Had: had}
	}
	for i, c := range []struct {
		h    api.Head
		want api.Errno
	}{
		{api.Head{}, api.OK}, {api.Head{Props: []api.Prop{prop(api.KeyBold, 1), prop(api.KeyBold, 1)}}, api.ErrDuplicate}, {api.Head{Props: []api.Prop{prop(api.KeyAlign, 1), prop(api.KeyBold, 1)}}, api.ErrOrder}, {api.Head{Props: []api.Prop{prop(api.KeyAlign, 4)}}, api.ErrValue},
		{api.Head{Props: []api.Prop{prop(api.KeyCharStyle, 0), prop(api.KeyParaStyle, 0), prop(api.KeyList, 0)}}, api.OK}, {api.Head{Props: []api.Prop{prop(api.KeyCharStyle, 9), prop(api.KeyAlign, 4)}}, api.ErrValue},
		{api.Head{Props: []api.Prop{prop(api.KeyParaStyle, 9), prop(api.KeyList, 9)}}, api.ErrStyle}, {api.Head{Props: []api.Prop{prop(api.KeyList, api.MaxId)}}, api.OK}, {api.Head{Props: []api.Prop{prop(api.KeyList, -1)}}, api.ErrValue},
		{api.Head{Marks: api.Marks{Ins: -1}}, api.ErrRevision}, {api.Head{Marks: api.Marks{Ins: 20, Move: api.MaxId}}, api.OK}, {api.Head{Marks: api.Marks{Ins: 20, Move: api.MaxId + 1}}, api.ErrMark}, {api.Head{Marks: api.Marks{Move: 1}}, api.ErrMark},
		{api.Head{Marks: api.Marks{Dels: dels(16)}}, api.OK}, {api.Head{Marks: api.Marks{Dels: dels(17)}}, api.ErrLimit}, {api.Head{Marks: api.Marks{Dels: []api.Del{{Rev: 2}, {Rev: 1}}}}, api.ErrOrder}, {api.Head{Marks: api.Marks{Dels: []api.Del{{Rev: 2}, {Rev: 21}}}}, api.ErrRevision}, {api.Head{Marks: api.Marks{Dels: []api.Del{{Rev: 1}, {Rev: 2}, {Rev: 1}}}}, api.ErrOrder},
		{api.Head{Marks: api.Marks{Layers: layers(64)}}, api.OK}, {api.Head{Marks: api.Marks{Layers: layers(65)}}, api.ErrLimit}, {api.Head{Marks: api.Marks{Layers: []api.Layer{layer(1, api.KeyBold, 0, false), layer(1, api.KeyCharStyle, 0, false)}}}, api.ErrOrder},
		{api.Head{Marks: api.Marks{Layers: []api.Layer{layer(21, 99, 1, false)}}}, api.ErrRevision}, {api.Head{Marks: api.Marks{Layers: []api.Layer{layer(1, 99, 1, false)}}}, api.ErrKey}, {api.Head{Marks: api.Marks{Layers: []api.Layer{layer(1, api.KeyBold, 1, false)}}}, api.ErrMark}, {api.Head{Marks: api.Marks{Layers: []api.Layer{layer(1, api.KeySize, 0, false)}}}, api.OK}, {api.Head{Marks: api.Marks{Layers: []api.Layer{layer(1, api.KeySize, 0, true)}}}, api.ErrValue},
		{api.Head{Marks: api.Marks{Layers: []api.Layer{layer(1, api.KeyCharStyle, 1, true)}}}, api.ErrStyle}, {api.Head{Marks: api.Marks{Layers: []api.Layer{layer(1, api.KeyCharStyle, 2, true), layer(1, api.KeyCharStyle, 0, true)}}}, api.OK}, {api.Head{Marks: api.Marks{Layers: []api.Layer{layer(1, api.KeyParaStyle, 2, true)}}}, api.ErrStyle}, {api.Head{Marks: api.Marks{Layers: []api.Layer{layer(1, api.KeyParaStyle, -1, true)}}}, api.ErrValue},
		{api.Head{Marks: api.Marks{Layers: []api.Layer{layer(1, api.KeyList, 2, true)}}}, api.ErrList}, {api.Head{Marks: api.Marks{Layers: []api.Layer{layer(1, api.KeyList, 0, true), layer(1, api.KeyList, 0, false)}}}, api.OK}, {api.Head{Marks: api.Marks{Layers: []api.Layer{layer(1, api.KeyAlign, 0, false), layer(1, api.KeyBold, 1, false)}}}, api.ErrOrder},
	} {
		d := headed()
		d.Flow[0].Head = c.h
		if e := document.Check(d); e != c.want {
			t.Errorf("%d: Check(%+v) = %d; want %d", i, c.h, e, c.want)
		}
		if e := document.CheckInsert(headed(), 0, d.Flow); e != c.want {
			t.Errorf("%d: CheckInsert(%+v) = %d; want %d", i, c.h, e, c.want)
		}
	}
}

// TestP13_1HeadsOfAll checks which keys the heads of all elements can have, as properties and as layers.
func TestP13_1HeadsOfAll(t *testing.T) {
	keys := map[int]int{api.KeyBold: 0, api.KeyAlign: 1, api.KeyTop: 2, api.KeyHeader: 3, api.KeyShade: 4, api.KeyTableWidth: 5}
	put := func(h api.Head) []func(d *api.Document) {
		with := func(i api.Item) func(d *api.Document) {
			i.Head = h
			return func(d *api.Document) { d.Flow = flow(i) }
		}
		c := cell(2)
		c.Head = h
		return []func(d *api.Document){
			with(text("a")), with(api.Item{Kind: api.Break, Code: 1}), with(field("a")), with(note(1)), with(para()), with(section()),
			func(d *api.Document) { d.End = h }, func(d *api.Document) { d.Flow = flow(table(1, api.Row{Head: h, Cells: []api.Cell{cell(2)}})) },
			func(d *api.Document) { d.Flow = flow(table(1, row(c))) }, with(table(1, row(cell(2)))), with(anchor(2, 1)),
		}
	}
	groups := [][]int{{0}, {0}, {0}, {0}, {0, 1}, {2}, {2}, {3}, {4}, {5}, {}}
	for key, group := range keys {
		for _, h := range []api.Head{{Props: []api.Prop{prop(key, 0)}}, {Marks: api.Marks{Layers: []api.Layer{{Rev: 1, Key: key}}}}} {
			for i, do := range put(h) {
				d := settled()
				do(&d)
				want := api.ErrKey
				if slices.Contains(groups[i], group) {
					want = api.OK
				}
				if e := document.Check(d); e != want {
					t.Errorf("Check of the element %d with %+v = %d; want %d", i, h, e, want)
				}
			}
		}
	}
	for i, do := range put(api.Head{Marks: api.Marks{Ins: 1, Move: 3, Dels: []api.Del{{Rev: 2, Move: 3}}}}) {
		d := settled()
		do(&d)
		want := api.OK
		if len(d.Flow) == 0 {
			want = api.ErrMark
		}
		if e := document.Check(d); e != want {
			t.Errorf("Check of the element %d with marks = %d; want %d", i, e, want)
		}
	}
}

func TestP13_1End(t *testing.T) {
	for i, c := range []struct {
		m    api.Marks
		want api.Errno
	}{
		{api.Marks{Ins: 1}, api.ErrMark}, {api.Marks{Move: 1}, api.ErrMark}, {api.Marks{Dels: []api.Del{{Rev: 1}}}, api.ErrMark}, {api.Marks{Ins: 9}, api.ErrRevision}, {api.Marks{Ins: 1, Dels: []api.Del{{Rev: 9}}}, api.ErrRevision},
		{api.Marks{Ins: 1, Layers: make([]api.Layer, 65)}, api.ErrLimit}, {api.Marks{Layers: []api.Layer{{Rev: 1, Key: api.KeyTop, Before: 5, Had: true}}}, api.OK}, {api.Marks{Dels: []api.Del{}}, api.OK},
	} {
		d := settled()
		d.End.Marks = c.m
		if e := document.Check(d); e != c.want {
			t.Errorf("%d: Check = %d; want %d", i, e, c.want)
		}
	}
}

func TestP13_1CheckInsert(t *testing.T) {
	d := settled()
	d.Flow = flow(note(1, para(), table(2, row(cell(3, para())))), anchor(2, 9))
	d.Flow = append(d.Flow, nested(4, 10)...)
	for i, c := range []struct {
		flow int
		l    []api.Item
		want api.Errno
	}{
		{0, nil, api.OK}, {1, nil, api.OK}, {2, nil, api.ErrNotFound}, {9, flow(api.Item{}), api.ErrNotFound}, {-1, nil, api.ErrNotFound}, {16, nil, api.ErrNotFound}, {17, nil, api.OK}, {11, nil, api.OK},
		{0, flow(section()), api.OK}, {1, flow(section()), api.ErrFlow}, {3, flow(section()), api.ErrFlow}, {11, flow(section()), api.ErrFlow}, {0, flow(note(5, section())), api.ErrFlow},
		{0, flow(note(5)), api.OK}, {1, flow(note(5)), api.ErrFlow}, {3, flow(note(5)), api.ErrFlow}, {11, flow(note(5)), api.OK}, {17, flow(para(), note(0)), api.ErrId}, {3, flow(note(0)), api.ErrFlow}, {1, nested(1, 20, note(5)), api.ErrFlow},
		{0, nested(4, 20), api.OK}, {0, nested(5, 20), api.ErrDepth}, {1, nested(4, 20), api.OK}, {1, nested(5, 20), api.ErrDepth}, {3, nested(3, 20), api.OK}, {3, nested(4, 20), api.ErrDepth}, {17, nested(3, 20), api.OK}, {17, nested(4, 20), api.ErrDepth}, {11, nested(1, 20), api.ErrDepth}, {13, nested(1, 20), api.OK}, {11, flow(note(20, nested(1, 21)...)), api.ErrDepth},
		{0, flow(note(1)), api.ErrId}, {0, flow(note(2)), api.ErrId}, {0, flow(note(3)), api.ErrId}, {0, flow(note(9)), api.OK}, {0, flow(table(17, row(cell(5)))), api.ErrId}, {0, flow(table(5, row(cell(17)))), api.ErrId}, {0, flow(note(5), note(5)), api.ErrDuplicate}, {0, flow(note(5), table(6, row(cell(5)))), api.ErrDuplicate}, {11, flow(note(5), note(5), note(1)), api.ErrDuplicate}, {11, flow(note(5), note(1), note(5)), api.ErrId},
		{17, flow(anchor(2, 1), anchor(2, 17)), api.OK}, {0, flow(marked(para(), api.Marks{Ins: 2})), api.OK}, {0, flow(marked(para(), api.Marks{Ins: 3})), api.ErrRevision}, {0, flow(para(prop(api.KeyParaStyle, 1))), api.OK}, {0, flow(para(prop(api.KeyParaStyle, 2))), api.ErrStyle}, {0, flow(para(prop(api.KeyList, 7))), api.ErrList},
		{0, flow(text("")), api.ErrEmpty}, {0, flow(para(), text("a"), api.Item{}), api.ErrKind}, {0, flow(text(long(api.MaxUnits-8)), text("")), api.ErrEmpty}, {3, flow(text(long(api.MaxUnits - 9))), api.OK}, {3, flow(text(long(api.MaxUnits - 8))), api.ErrLimit},
	} {
		if e := document.CheckInsert(d, c.flow, c.l); e != c.want {
			t.Errorf("%d: CheckInsert(%d, %+v) = %d; want %d", i, c.flow, c.l, e, c.want)
		}
	}
}

// TestP13_1CheckInsertOfMany compares CheckInsert with Check of the document that has the items.
func TestP13_1CheckInsertOfMany(t *testing.T) {
	results := make(map[api.Errno]int)
	wrong := []api.Item{{}, text(""), section(), note(5000), table(5001, row(cell(5002))), table(1), marked(para(), api.Marks{Ins: 3}), para(prop(api.KeyParaStyle, 4)), field("\xFF"), note(1 << 20), anchor(1, 1)}
	many(1500, 13, func(r *rand.Rand, d api.Document) {
		l := samples.Items(r.IntN, d, 1+r.IntN(2)*10007)
		if r.IntN(2) == 0 {
			l = slices.Insert(l, r.IntN(len(l)+1), wrong[r.IntN(len(wrong))])
		}
		ids := document.Flows(d)
		id := ids[r.IntN(len(ids))]
		before := full(d) + show(l[:cap(l)])
		got := document.CheckInsert(d, id, l)
		own, _ := document.Flow(d, id)
		want := document.Check(withFlow(d, id, slices.Concat(own, l)))
		if got != want && (got != api.ErrId || want == api.OK) {
			t.Fatalf("CheckInsert(%+v, %d, %+v) = %d; want %d", d, id, l, got, want)
		}
		results[got]++
		if full(d)+show(l[:cap(l)]) != before {
			t.Fatalf("CheckInsert changed %s", before)
		}
	})
	if results[api.OK] < 300 || results[api.ErrId] < 20 || results[api.ErrFlow] < 20 {
		t.Errorf("the results are %v", results)
	}
}
