package run_test

import (
	"fmt"
	"math/rand/v2"
	"reflect"
	"slices"
	"strings"
	"testing"
	"unicode/utf8"

	"obelus/api"
	"obelus/codepoint"
	"obelus/run"
	"obelus/samples"
)

var kinds = []int{-1, 0, api.Text, api.Para, api.Section, api.Break, api.Field, api.Note, api.Table, api.Anchor, 9, 10}

func text(s string, props ...api.Prop) api.Item {
	return api.Item{Kind: api.Text, Text: s, Head: api.Head{Props: props}}
}
func bold(s string) api.Item { return text(s, api.Prop{Key: api.KeyBold, Value: 1}) }
func para() api.Item         { return api.Item{Kind: api.Para} }
func note(l ...api.Item) api.Item {
	return api.Item{Kind: api.Note, Code: api.Footnote, Id: 1, Flow: l}
}
func table(rows ...api.Row) api.Item { return api.Item{Kind: api.Table, Id: 2, Rows: rows} }
func row(cells ...api.Cell) api.Row  { return api.Row{Cells: cells} }
func cell(l ...api.Item) api.Cell    { return api.Cell{Id: 3, Flow: l} }
func flow(l ...api.Item) []api.Item  { return l }

// show returns a string that is equal for equal values, where nil and empty slices are equal.
func show(v any) string { return fmt.Sprintf("%+v", v) }

// source makes items of all kinds, with and without what they should not have.
type source struct{ *rand.Rand }

func newSource() source { return source{rand.New(rand.NewPCG(11, 5))} }

func (s source) one(list ...string) string { return list[s.IntN(len(list))] }

func (s source) head() api.Head {
	heads := []api.Head{
		{},
		{Props: []api.Prop{}, Marks: api.Marks{Dels: []api.Del{}, Layers: make([]api.Layer, 0, 2)}},
		{Props: []api.Prop{{Key: api.KeyBold, Value: 1}}},
		{Props: []api.Prop{{Key: api.KeyBold, Value: 1}}, Marks: api.Marks{Ins: 1, Move: 2, Dels: []api.Del{{Rev: 1}}, Layers: []api.Layer{{Rev: 1, Key: api.KeyBold}}}},
	}
	return heads[s.IntN(len(heads))]
}

func (s source) item(depth int) api.Item {
	item := api.Item{Kind: kinds[s.IntN(len(kinds))], Code: s.IntN(5), Id: s.IntN(3), Head: s.head()}
	if s.IntN(2) > 0 {
		item.Kind = api.Text
	}
	item.Text = s.one("", "", "a", "\u00e9", "b\U0001F600c", "\uFFFD", "\n")
	if depth > 0 && s.IntN(3) == 0 {
		item.Flow = s.items(3, depth-1)
	}
	for depth > 0 && s.IntN(4) == 0 {
		r := api.Row{Head: s.head()}
		for s.IntN(2) > 0 {
			r.Cells = append(r.Cells, api.Cell{Id: s.IntN(3), Head: s.head(), Flow: s.items(3, depth-1)})
		}
		item.Rows = append(item.Rows, r)
	}
	return item
}

// flow returns a divisible flow, with room behind its end.
func (s source) flow(depth int) []api.Item { return s.items(6, depth) }

func (s source) items(most, depth int) []api.Item {
	l := make([]api.Item, 0, most+1)
	for range s.IntN(most + 1) {
		l = append(l, s.item(depth))
	}
	return l
}

// naiveNormal removes and joins one after another, as the chapter says it.
func naiveNormal(l []api.Item) []api.Item {
	l = slices.Clone(l)
	for i := range l {
		l[i].Flow = naiveNormal(l[i].Flow)
		l[i].Rows = slices.Clone(l[i].Rows)
		for j := range l[i].Rows {
			r := &l[i].Rows[j]
			r.Cells = slices.Clone(r.Cells)
			for k := range r.Cells {
				r.Cells[k].Flow = naiveNormal(r.Cells[k].Flow)
			}
		}
		l[i].Rows = slices.DeleteFunc(l[i].Rows, func(r api.Row) bool { return len(r.Cells) == 0 })
	}
	l = slices.DeleteFunc(l, func(i api.Item) bool { return i.Kind == api.Table && len(i.Rows) == 0 })
	l = slices.DeleteFunc(l, func(i api.Item) bool { return i.Kind == api.Text && i.Text == "" })
	for i := 1; i < len(l); {
		if l[i-1].Kind == api.Text && l[i].Kind == api.Text && show(l[i-1].Head) == show(l[i].Head) {
			l[i-1].Text += l[i].Text
			l = slices.Delete(l, i, i+1)
		} else {
			i++
		}
	}
	return l
}

// full shows a flow together with what stands behind its end.
func full(l []api.Item) string { return show(l[:cap(l)]) }

// wants checks that a result is the normal form of some items, is one itself, and shares no memory.
func wants(t *testing.T, what string, got, want []api.Item, others ...any) {
	t.Helper()
	if normal := naiveNormal(want); show(got) != show(normal) {
		t.Fatalf("%s = %+v; want %+v", what, got, normal)
	}
	if !run.IsNormal(got) {
		t.Fatalf("%s = %+v, which is not normal", what, got)
	}
	if !samples.Apart(append(others, got)...) {
		t.Fatalf("%s = %+v shares memory", what, got)
	}
}

// wrongFlows returns flows that are not divisible.
func wrongFlows() [][]api.Item {
	return [][]api.Item{
		flow(text("\xFF")), flow(text("a"), para(), text("b\xC3")), flow(text("\xED\xA0\x80"), text("a")),
		flow(text("\xC3"), text("\xA9")), // a code point that is divided by force
		flow(para(), bold("\xC0\x80")), flow(table(), text("\xF4\x90\x80\x80")),
	}
}

// soundFlows returns divisible flows that have invalid strings elsewhere.
func soundFlows() [][]api.Item {
	wrong := text("\xFF")
	return [][]api.Item{
		flow(note(wrong), text("a")), flow(table(row(cell(wrong))), text("a")),
		flow(api.Item{Kind: api.Field, Text: "\xFF"}, text("a")), flow(api.Item{Kind: 9, Text: "\xFF"}, text("a")),
		flow(api.Item{Kind: api.Text, Text: "ab", Flow: flow(wrong)}),
	}
}

func TestP1AllArguments(t *testing.T) {
	s := newSource()
	flows := append(append(wrongFlows(), soundFlows()...), nil, s.flow(2), s.flow(2), s.flow(3))
	for _, l := range flows {
		if n, e := run.Len(l); e != api.OK && n != 0 {
			t.Errorf("Len(%+v) = %d, %d", l, n, e)
		}
		for _, a := range samples.Numbers() {
			if index, inner, e := run.Index(l, a); e != api.OK && (index != 0 || inner != 0) {
				t.Errorf("Index(%+v, %d) = %d, %d, %d", l, a, index, inner, e)
			}
			if left, right, e := run.Split(l, a); e != api.OK && (len(left) > 0 || len(right) > 0) {
				t.Errorf("Split(%+v, %d) = %+v, %+v, %d", l, a, left, right, e)
			}
			for _, b := range samples.Numbers() {
				if part, e := run.Slice(l, a, b); e != api.OK && len(part) > 0 {
					t.Errorf("Slice(%+v, %d, %d) = %+v, %d", l, a, b, part, e)
				}
				if all, e := run.Replace(l, a, b, l); e != api.OK && len(all) > 0 {
					t.Errorf("Replace(%+v, %d, %d) = %+v, %d", l, a, b, all, e)
				}
			}
		}
		run.Text(l)
		run.Concat(l, l)
	}
}

// TestP1Deep nests flows as deeply as the document permits.
func TestP1Deep(t *testing.T) {
	var tables, notes []api.Item
	for range 1 << 16 {
		tables = flow(text("a"), table(row(), row(cell(tables...))), text("b"), text("c"))
		notes = flow(note(notes...))
	}
	normal := run.Normal(tables)
	if run.IsNormal(tables) || !run.IsNormal(normal) || run.Equal(tables, normal) {
		t.Error("the normal form is wrong")
	}
	if !run.Equal(tables, run.Clone(tables)) || !run.Equal(notes, run.Normal(notes)) {
		t.Error("the copy is wrong")
	}
}

func TestP11_1Len(t *testing.T) {
	for _, c := range []struct {
		l    []api.Item
		want int
	}{
		{nil, 0}, {flow(), 0}, {flow(text("")), 0}, {flow(text("ab"), bold("c"), para()), 4}, {flow(text("\u00e9\U0001F600"), text(""), text("a\n")), 4},
		{flow(note(text("abc")), table(row(cell(text("abc")))), table()), 3}, {flow(api.Item{}, api.Item{Kind: 9, Text: "abc"}, api.Item{Kind: -1}), 3},
		{flow(api.Item{Kind: api.Section}, api.Item{Kind: api.Break}, api.Item{Kind: api.Field, Text: "abc"}, api.Item{Kind: api.Anchor, Text: ""}), 4},
	} {
		if n, e := run.Len(c.l); n != c.want || e != api.OK {
			t.Errorf("Len(%+v) = %d, %d; want %d", c.l, n, e, c.want)
		}
	}
	for _, l := range wrongFlows() {
		if n, e := run.Len(l); n != 0 || e != api.ErrUTF8 {
			t.Errorf("Len(%+v) = %d, %d", l, n, e)
		}
	}
	for _, l := range soundFlows() {
		if n, e := run.Len(l); n != 2 || e != api.OK {
			t.Errorf("Len(%+v) = %d, %d", l, n, e)
		}
	}
}

func TestP11_1Index(t *testing.T) {
	if index, inner, e := run.Index(flow(text("ab"), bold("c"), para()), 2); index != 1 || inner != 0 || e != api.OK {
		t.Errorf("Index of the chapter's example = %d, %d, %d", index, inner, e)
	}
	s := newSource()
	for range 500 {
		l := s.flow(1)
		at := 0
		for i := range l {
			for j := range len(samples.Units(l[i : i+1])) {
				if index, inner, e := run.Index(l, at); index != i || inner != j || e != api.OK {
					t.Fatalf("Index(%+v, %d) = %d, %d, %d; want %d, %d", l, at, index, inner, e, i, j)
				}
				at++
			}
		}
		if n, e := run.Len(l); n != at || e != api.OK {
			t.Fatalf("Len(%+v) = %d, %d; want %d", l, n, e, at)
		}
		for _, n := range append(samples.Numbers(), at, at+1) {
			if n >= 0 && n < at {
				continue
			}
			if index, inner, e := run.Index(l, n); index != 0 || inner != 0 || e != api.ErrRange {
				t.Fatalf("Index(%+v, %d) = %d, %d, %d", l, n, index, inner, e)
			}
		}
	}
}

// TestP11ErrorsOfStrings checks that ErrUTF8 comes before ErrRange.
func TestP11ErrorsOfStrings(t *testing.T) {
	for _, l := range wrongFlows() {
		for _, n := range []int{-1, 0, 1, 2, 99} {
			if _, _, e := run.Index(l, n); e != api.ErrUTF8 {
				t.Errorf("Index(%+v, %d): %d", l, n, e)
			}
			if _, _, e := run.Split(l, n); e != api.ErrUTF8 {
				t.Errorf("Split(%+v, %d): %d", l, n, e)
			}
			if _, e := run.Slice(l, 0, n); e != api.ErrUTF8 {
				t.Errorf("Slice(%+v, 0, %d): %d", l, n, e)
			}
			if _, e := run.Replace(l, n, 0, nil); e != api.ErrUTF8 {
				t.Errorf("Replace(%+v, %d, 0): %d", l, n, e)
			}
		}
	}
	for _, l := range soundFlows() {
		if index, _, e := run.Index(l, 1); index != len(l)-1 || e != api.OK {
			t.Errorf("Index(%+v, 1) = %d, .., %d", l, index, e)
		}
		if _, _, e := run.Split(l, 1); e != api.OK {
			t.Errorf("Split(%+v, 1): %d", l, e)
		}
	}
}

func TestP11_2Normal(t *testing.T) {
	empty := api.Head{Props: []api.Prop{}, Marks: api.Marks{Dels: []api.Del{}, Layers: []api.Layer{}}}
	first, second := text("a"), text("b")
	first.Code, first.Id, first.Flow = 5, 6, flow(text("x"), text("y"))
	second.Code, second.Id, second.Flow, second.Rows = 7, 8, flow(para()), []api.Row{row(cell())}
	joined := text("ab")
	joined.Code, joined.Id, joined.Flow = 5, 6, flow(text("xy"))
	for _, c := range []struct{ l, want []api.Item }{
		{nil, nil}, {flow(text("")), nil}, {flow(text("a"), text(""), text("b")), flow(text("ab"))}, {flow(text("a"), bold("b"), text("c")), flow(text("a"), bold("b"), text("c"))},
		{flow(text("a"), bold(""), text("b")), flow(text("ab"))}, {flow(text("a"), table(row(), row()), text("b")), flow(text("ab"))}, {flow(text("a"), para(), text("b")), flow(text("a"), para(), text("b"))},
		{flow(table()), nil}, {flow(table(row())), nil}, {flow(table(row(), row(cell()), row())), flow(table(row(cell())))}, {flow(note(table(row()))), flow(note())},
		{flow(table(row(cell(table(row(cell(text("a"), text("b")), cell(text("")))))))), flow(table(row(cell(table(row(cell(text("ab")), cell()))))))},
		{flow(text("a"), api.Item{Kind: api.Text, Text: "b", Head: empty}), flow(text("ab"))}, {flow(text("\xC3"), text("\xA9\xFF")), flow(text("\u00e9\xFF"))},
		{flow(first, second), flow(joined)}, {flow(api.Item{Kind: api.Note, Rows: []api.Row{row(), row(cell(text("")))}}), flow(api.Item{Kind: api.Note, Rows: []api.Row{row(cell())}})},
		{flow(api.Item{Kind: api.Field}, api.Item{Kind: api.Field}), flow(api.Item{Kind: api.Field}, api.Item{Kind: api.Field})}, {flow(api.Item{Kind: api.Text, Flow: flow(para())}), nil},
		{flow(api.Item{Kind: 9}, api.Item{}), flow(api.Item{Kind: 9}, api.Item{})},
	} {
		if got := run.Normal(c.l); show(got) != show(c.want) {
			t.Errorf("Normal(%+v) = %+v; want %+v", c.l, got, c.want)
		}
		wants(t, "Normal", run.Normal(c.l), c.l)
		if got := run.IsNormal(c.l); got != (show(c.l) == show(c.want)) {
			t.Errorf("IsNormal(%+v) = %v", c.l, got)
		}
	}
}

func TestP11_2NormalOfMany(t *testing.T) {
	s := newSource()
	normal := 0
	for range 4000 {
		l := s.flow(3)
		before := full(l)
		wants(t, "Normal", run.Normal(l), l)
		is := show(l) == show(naiveNormal(l))
		if got := run.IsNormal(l); got != is {
			t.Fatalf("IsNormal(%+v) = %v", l, got)
		}
		if is {
			normal++
		}
		if full(l) != before {
			t.Fatalf("Normal changed %s to %s", before, full(l))
		}
	}
	if normal < 500 {
		t.Errorf("only %d flows were in normal form", normal)
	}
}

// TestP11_2NormalOfHeads checks that texts are joined exactly if no field of their heads differs.
func TestP11_2NormalOfHeads(t *testing.T) {
	l := flow(sample(), sample())
	l[0].Kind, l[1].Kind = api.Text, api.Text
	if got := run.Normal(l); len(got) != 1 || got[0].Text != l[0].Text+l[1].Text || run.IsNormal(l) {
		t.Errorf("Normal(%+v) = %+v", l, got)
	}
	l = run.Normal(l[:1])
	l = append(l, run.Clone(l)...)
	changes(reflect.ValueOf(&l[1].Head).Elem(), func() {
		if got := run.Normal(l); len(got) != 2 || !run.IsNormal(l) {
			t.Errorf("Normal(%+v) = %+v", l, got)
		}
	})
}

func TestP11_3Split(t *testing.T) {
	left, right, e := run.Split(flow(text("ab"), bold("c"), para()), 1)
	if show(left) != show(flow(text("a"))) || show(right) != show(flow(text("b"), bold("c"), para())) || e != api.OK {
		t.Errorf("Split of the chapter's example = %+v, %+v, %d", left, right, e)
	}
	s := newSource()
	for range 1000 {
		l := s.flow(2)
		before := full(l)
		units := samples.Units(l)
		for at := range len(units) + 1 {
			left, right, e := run.Split(l, at)
			if e != api.OK {
				t.Fatalf("Split(%+v, %d): %d", l, at, e)
			}
			wants(t, "left", left, units[:at])
			wants(t, "right", right, units[at:], left)
			if !run.Equal(run.Concat(left, right), run.Normal(l)) {
				t.Fatalf("the parts of %+v are %+v and %+v", l, left, right)
			}
		}
		for _, at := range []int{-1, len(units) + 1, 1 << 62, -1 << 63} {
			if left, right, e := run.Split(l, at); len(left) > 0 || len(right) > 0 || e != api.ErrRange {
				t.Fatalf("Split(%+v, %d) = %+v, %+v, %d", l, at, left, right, e)
			}
		}
		if full(l) != before {
			t.Fatalf("Split changed %s to %s", before, full(l))
		}
	}
}

// TestP11_4And5 checks Slice and Replace for all ranges of flows.
func TestP11_4And5SliceAndReplace(t *testing.T) {
	s := newSource()
	for range 1000 {
		l, with := s.flow(1), s.flow(1)
		if s.IntN(9) == 0 {
			with = append(with, text("\xFF"), text("\xC3"))
		}
		before := full(l) + full(with)
		units := samples.Units(l)
		for from := -1; from <= len(units)+1; from++ {
			for to := -1; to <= len(units)+1; to++ {
				part, e := run.Slice(l, from, to)
				all, f := run.Replace(l, from, to, with)
				if 0 <= from && from <= to && to <= len(units) {
					wants(t, "Slice", part, units[from:to])
					wants(t, "Replace", all, slices.Concat(units[:from], with, units[to:]), part)
				} else if e != api.ErrRange || f != api.ErrRange || len(part) > 0 || len(all) > 0 {
					t.Fatalf("Slice(%+v, %d, %d) = %+v, %d; Replace = %+v, %d", l, from, to, part, e, all, f)
				}
			}
		}
		if full(l)+full(with) != before {
			t.Fatalf("Slice or Replace changed %s", before)
		}
	}
}

func TestP11_5ReplaceExamples(t *testing.T) {
	for _, c := range []struct {
		from, to int
		with     []api.Item
		want     []api.Item
	}{
		{1, 1, flow(text("x")), flow(text("axb"), para(), bold("cd"))}, {1, 4, nil, flow(text("a"), bold("d"))}, {2, 3, nil, flow(text("ab"), bold("cd"))}, {0, 3, flow(bold("x")), flow(bold("xcd"))},
		{5, 5, flow(text("\xFF")), flow(text("ab"), para(), bold("cd"), text("\xFF"))}, {0, 5, flow(table(row()), text("")), nil}, {2, 2, flow(note(text("x"), text("y"))), flow(text("ab"), note(text("xy")), para(), bold("cd"))},
	} {
		if got, e := run.Replace(flow(text("ab"), para(), bold("c"), text(""), bold("d")), c.from, c.to, c.with); show(got) != show(c.want) || e != api.OK {
			t.Errorf("Replace(%d, %d, %+v) = %+v, %d; want %+v", c.from, c.to, c.with, got, e, c.want)
		}
	}
	l := flow(text("ab"), note(text("x")))
	if got, e := run.Replace(l, 1, 2, l); show(got) != show(flow(text("aab"), note(text("x")), note(text("x")))) || e != api.OK || !samples.Apart(l, got) {
		t.Errorf("Replace with the flow itself = %+v, %d", got, e)
	}
}

func TestP11_6Concat(t *testing.T) {
	if got := run.Concat(); len(got) != 0 {
		t.Errorf("Concat() = %+v", got)
	}
	if got := run.Concat(flow(text("a")), nil, flow(text("\xFF"), bold("b"))); show(got) != show(flow(text("a\xFF"), bold("b"))) {
		t.Errorf("Concat = %+v", got)
	}
	s := newSource()
	for range 1000 {
		a, b, c := s.flow(2), s.flow(2), s.flow(2)
		before := full(a) + full(b) + full(c)
		all := run.Concat(a, b, c)
		wants(t, "Concat", all, slices.Concat(a, b, c))
		wants(t, "Concat of one", run.Concat(a), a)
		wants(t, "Concat of the same", run.Concat(a, a), slices.Concat(a, a))
		if !run.Equal(run.Concat(run.Concat(a, b), c), all) || !run.Equal(run.Concat(a, run.Concat(b, c)), all) {
			t.Fatalf("Concat is not associative for %+v, %+v, %+v", a, b, c)
		}
		if full(a)+full(b)+full(c) != before {
			t.Fatalf("Concat changed %s", before)
		}
	}
}

func TestP11_7Text(t *testing.T) {
	if got := run.Text(flow(text("a"), api.Item{Kind: api.Break, Code: api.Tab}, note(text("x")), para())); got != "a\t\uFFFC\n" {
		t.Errorf("Text of the chapter's example = %q", got)
	}
	characters := map[int]rune{api.Para: 0xA, api.Section: 0x1D, api.Field: 0xFFFC, api.Note: 0xFFFC, api.Table: 0xFFFC, api.Anchor: 0xFFFC}
	breaks := map[int]rune{api.LineBreak: 0xB, api.PageBreak: 0xC, api.Tab: 9}
	for _, kind := range kinds {
		for code := -1; code < 6; code++ {
			want, found := characters[kind]
			if kind == api.Break {
				want, found = breaks[code]
			}
			if !found {
				want = 0xFFFD
			}
			item := api.Item{Kind: kind, Code: code, Text: "x\xFF", Flow: flow(text("y")), Rows: []api.Row{row(cell(text("z")))}}
			if got := run.Text(flow(item, text("a"), item)); kind == api.Text && got != "x\xFFax\xFF" || kind != api.Text && got != string(want)+"a"+string(want) {
				t.Errorf("Text of the kind %d with the code %d = %q", kind, code, got)
			}
		}
	}
	if got := run.Text(nil); got != "" {
		t.Errorf("Text(nil) = %q", got)
	}
	if got := run.Text(flow(text(""), text("\xC3"), text("\xA9"), bold("\u00e9"))); got != "\xC3\xA9\u00e9" {
		t.Errorf("Text of invalid strings = %q", got)
	}
}

// sample returns an item in which all slices have elements.
func sample() api.Item {
	head := func() api.Head {
		return api.Head{Props: []api.Prop{{Key: 2, Value: 1}, {Key: 5, Value: 20}}, Marks: api.Marks{Ins: 1, Move: 2, Dels: []api.Del{{Rev: 3, Move: 4}, {Rev: 5}}, Layers: []api.Layer{{Rev: 6, Key: 7, Before: 8, Had: true}, {Rev: 9}}}}
	}
	inner := func() api.Item { return api.Item{Kind: api.Field, Code: 3, Id: 4, Text: "inner", Head: head()} }
	cells := []api.Cell{{Id: 5, Head: head(), Flow: flow(inner())}, {Id: 6}}
	return api.Item{Kind: api.Table, Code: 1, Id: 2, Text: "outer", Head: head(), Flow: flow(inner(), para()), Rows: []api.Row{{Head: head(), Cells: cells}, {}}}
}

// changes calls a function each time that one number, string or length in a value is different.
func changes(v reflect.Value, differs func()) {
	switch v.Kind() {
	case reflect.Int:
		v.SetInt(v.Int() + 1)
		differs()
		v.SetInt(v.Int() - 1)
	case reflect.Bool:
		v.SetBool(!v.Bool())
		differs()
		v.SetBool(!v.Bool())
	case reflect.String:
		s := v.String()
		v.SetString(s + "a")
		differs()
		v.SetString(s)
	case reflect.Struct:
		for i := range v.NumField() {
			changes(v.Field(i), differs)
		}
	case reflect.Slice:
		for i := range v.Len() {
			changes(v.Index(i), differs)
		}
		if n := v.Len(); n > 0 {
			v.SetLen(n - 1)
			differs()
			v.SetLen(n)
		}
	}
}

// differs checks that two equal values are not equal as soon as one field of either is changed.
func differs[T any](t *testing.T, name string, equal func(a, b T) bool, a, b T) {
	t.Helper()
	if !equal(a, b) {
		t.Errorf("%s of equal values = false", name)
	}
	count := 0
	for _, one := range []*T{&a, &b} {
		changes(reflect.ValueOf(one).Elem(), func() {
			count++
			if equal(a, b) {
				t.Errorf("%s(%+v, %+v) = true", name, a, b)
			}
		})
	}
	if count < 40 || !equal(a, b) {
		t.Errorf("%s: %d changes", name, count)
	}
}

func TestP11_8Equal(t *testing.T) {
	a, b := sample(), sample()
	differs(t, "Equal", run.Equal, flow(para(), sample()), flow(para(), sample()))
	differs(t, "EqualItem", run.EqualItem, a, b)
	differs(t, "EqualRow", run.EqualRow, a.Rows[0], b.Rows[0])
	differs(t, "EqualCell", run.EqualCell, a.Rows[0].Cells[0], b.Rows[0].Cells[0])
	differs(t, "EqualHead", run.EqualHead, a.Head, b.Head)
}

func TestP11_8EqualOfEmpty(t *testing.T) {
	empty := api.Head{Props: []api.Prop{}, Marks: api.Marks{Dels: make([]api.Del, 0, 1), Layers: []api.Layer{}}}
	if !run.Equal(nil, flow()) || !run.Equal(nil, nil) || run.Equal(nil, flow(api.Item{})) || run.Equal(flow(api.Item{}), nil) || run.Equal(flow(para()), flow(para(), para())) || run.Equal(flow(para(), text("a")), flow(text("a"), para())) {
		t.Error("Equal is wrong")
	}
	if !run.EqualHead(empty, api.Head{}) || !run.EqualItem(api.Item{Flow: flow(), Rows: []api.Row{}}, api.Item{Head: empty}) || !run.EqualRow(api.Row{Cells: []api.Cell{}}, api.Row{Head: empty}) || !run.EqualCell(api.Cell{Flow: flow()}, api.Cell{Head: empty}) {
		t.Error("nil and empty slices are not equal")
	}
	if !run.EqualItem(text("\xFF"), text("\xFF")) || run.EqualItem(text("\xFF"), text("\xFE")) {
		t.Error("EqualItem of invalid strings is wrong")
	}
}

func TestP11_8Clone(t *testing.T) {
	s := newSource()
	for i := range 1000 {
		l := s.flow(3)
		if i == 0 {
			l = flow(sample(), sample())
		}
		before := full(l)
		copied := run.Clone(l)
		if show(copied) != show(l) || !run.Equal(copied, l) || !samples.Apart(l, copied) || full(l) != before {
			t.Fatalf("Clone(%+v) = %+v", l, copied)
		}
		for _, item := range l {
			if head := run.CloneHead(item.Head); show(head) != show(item.Head) || !run.EqualHead(head, item.Head) || !samples.Apart(item, head) {
				t.Fatalf("CloneHead(%+v) = %+v", item.Head, head)
			}
			for _, r := range item.Rows {
				if row := run.CloneRow(r); show(row) != show(r) || !run.EqualRow(row, r) || !samples.Apart(r, row) {
					t.Fatalf("CloneRow(%+v) = %+v", r, row)
				}
				for _, c := range r.Cells {
					if cell := run.CloneCell(c); show(cell) != show(c) || !run.EqualCell(cell, c) || !samples.Apart(c, cell) {
						t.Fatalf("CloneCell(%+v) = %+v", c, cell)
					}
				}
			}
		}
	}
}

func TestP11_9Consequences(t *testing.T) {
	s := newSource()
	for range 3000 {
		l := s.flow(2)
		normal := run.Normal(l)
		if !run.Equal(run.Normal(normal), normal) {
			t.Fatalf("the normal form of %+v is another one", normal)
		}
		if points, e := codepoint.Count(run.Text(l)); e != api.OK || points != len(samples.Units(l)) {
			t.Fatalf("Text(%+v) has %d code points", l, points)
		}
		kept := slices.DeleteFunc(slices.Clone(l), func(i api.Item) bool { return i.Kind == api.Table })
		short := run.Normal(kept)
		count, _ := run.Len(kept)
		if n, e := run.Len(short); n != count || e != api.OK || run.Text(short) != run.Text(kept) {
			t.Fatalf("Normal(%+v) = %+v has %d units", kept, short, n)
		}
		other := run.Normal(s.flow(1))
		otherCount, _ := run.Len(other)
		normalCount, _ := run.Len(normal)
		if n, e := run.Len(run.Concat(normal, other)); n != normalCount+otherCount || e != api.OK {
			t.Fatalf("Concat(%+v, %+v) has %d units", normal, other, n)
		}
		sliceTwice(t, s, normal, normalCount)
	}
}

func sliceTwice(t *testing.T, s source, l []api.Item, count int) {
	t.Helper()
	from := s.IntN(count + 1)
	to := from + s.IntN(count-from+1)
	part, _ := run.Slice(l, from, to)
	for a := range to - from + 1 {
		for b := a; b <= to-from; b++ {
			twice, e := run.Slice(part, a, b)
			once, f := run.Slice(l, from+a, from+b)
			if e != api.OK || f != api.OK || !run.Equal(twice, once) {
				t.Fatalf("slices of %+v: %+v, %+v", l, twice, once)
			}
		}
	}
}

// TestP11Long checks that flows of many items and long texts are handled in a reasonable time.
func TestP11Long(t *testing.T) {
	var l []api.Item
	for range 1 << 16 {
		l = append(l, text("\u00e9"), bold(""))
	}
	normal := run.Normal(l)
	if len(normal) != 1 || normal[0].Text != strings.Repeat("\u00e9", 1<<16) {
		t.Errorf("Normal has %d items", len(normal))
	}
	left, right, e := run.Split(normal, 1<<15)
	if e != api.OK || utf8.RuneCountInString(run.Text(left)) != 1<<15 || !run.Equal(left, right) {
		t.Errorf("Split: %d", e)
	}
}
