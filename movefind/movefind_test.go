package movefind_test

import (
	"math"
	"math/rand/v2"
	"slices"
	"strings"
	"testing"

	"obelus/api"
	"obelus/document"
	"obelus/movefind"
	"obelus/run"
	"obelus/samples"
)

func TestP1AllArguments(t *testing.T) {
	r := rand.New(rand.NewPCG(33, 1))
	odd := doc(cut(text("\xFF")), cut(note(0, text("\xFF"))), put(note(0, put(text("a")))), put(table(1)), cut(table(1, row(), row(cell(0, cut(text("a")))))), del(text("a"), api.Del{}, api.Del{Rev: 1}, api.Del{Rev: 1, Move: -1}), ins(text("a"), -1, math.MaxInt), api.Item{Kind: 99, Id: 1, Flow: flow(cut(text("a")))})
	odd.Flow = append(odd.Flow, cut(text("")), put(text("\xFFa\xC3")), cut(text("\xFFa\xC3")), table(3), api.Item{})
	odd.Revs = append(odd.Revs, api.Rev{Id: -1}, api.Rev{})
	last := doc(ins(text("a"), 1, math.MaxInt), cut(text("a")), text("b"), put(text("a")))
	twice := doc(note(0, put(text("ab")), text("c")), cut(text("ab")), note(0, text("xy")))
	wild := []api.Document{{}, odd, last, twice, {Flow: odd.Flow}, {Revs: odd.Revs}}
	for range 300 {
		wild = append(wild, samples.Wrong(r.IntN), samples.Document(r.IntN))
	}
	numbers := append(samples.Numbers(), 1, 1, 2)
	for i, d := range wild {
		for range 20 {
			rev, least := numbers[r.IntN(len(numbers))], numbers[r.IntN(len(numbers))]
			sources, e1 := movefind.Sources(d, rev)
			targets, e2 := movefind.Targets(d, rev)
			if e1 != e2 || e1 != api.OK && len(sources)+len(targets) > 0 {
				t.Fatalf("%d: %v, %d, %v, %d", i, sources, e1, targets, e2)
			}
			f, is, e := movefind.Longest(d, rev, least)
			if !is && f != (found{}) || e != api.OK && is {
				t.Fatalf("%d: Longest = %v, %t, %d", i, f, is, e)
			}
			l, e3 := movefind.Find(d, rev, least)
			marked, count, e4 := movefind.Mark(d, rev, least)
			if e3 != e || e3 != api.OK && l != nil || e4 != api.OK && (count != 0 || !document.Equal(marked, api.Document{})) {
				t.Fatalf("%d: Find = %v, %d, Mark = %+v, %d, %d", i, l, e3, marked, count, e4)
			}
			if x, y, z, e := movefind.Score(d, rev); e != e1 || e != api.OK && (x != 0 || y != 0 || z != 0) {
				t.Fatalf("%d: Score = %d, %d, %d, %d", i, x, y, z, e)
			}
		}
		for range 10 {
			var a, b api.Item
			if len(d.Flow) > 0 {
				a, b = d.Flow[r.IntN(len(d.Flow))], d.Flow[r.IntN(len(d.Flow))]
			}
			if movefind.Same(a, b) != movefind.Same(b, a) {
				t.Fatalf("Same(%+v, %+v) depends on the order", a, b)
			}
		}
	}
}

// TestP1Deep nests flows as deeply as the document permits.
func TestP1Deep(t *testing.T) {
	tables, notes := samples.Deep(1 << 16)
	for i, l := range [][]api.Item{tables, notes} {
		d := api.Document{Flow: flow(cut(l[1]), para(), put(l[1])), Revs: revs()}
		want := found{span(0, 0, 1), span(0, 2, 3)}
		if f, is, e := movefind.Longest(d, 1, 1); f != want || !is || e != api.OK {
			t.Errorf("%d: Longest = %v, %t, %d", i, f, is, e)
		}
		if got, count, e := movefind.Mark(d, 1, 1); got.Flow[0].Head.Marks.Dels[0].Move != 1 || got.Flow[2].Head.Marks.Move != 1 || count != 1 || e != api.OK {
			t.Errorf("%d: Mark = %d, %d", i, count, e)
		}
		if x, y, z, e := movefind.Score(d, 1); x != 1 || y != 1 || z != 0 || e != api.OK {
			t.Errorf("%d: Score = %d, %d, %d, %d", i, x, y, z, e)
		}
		if !movefind.Same(l[1], l[1]) || movefind.Same(l[1], l[0]) {
			t.Errorf("%d: Same is wrong", i)
		}
	}
	deep := flow(text("a"))
	for i := range 1 << 16 { // every note is a source unit if it has no marks in it
		deep = flow(cut(text("a")), cut(note(i+1, deep...)), put(text("a")))
	}
	d := api.Document{Flow: deep, Revs: revs()}
	if l, e := movefind.Sources(d, 1); len(l) != 1<<16 || e != api.OK {
		t.Errorf("Sources = %d ranges, %d", len(l), e)
	}
}

func TestP33_0Revision(t *testing.T) {
	l := slices.Repeat(flow(cut(text("a")), text("b")), 2100)
	for i, d := range []api.Document{{}, doc(text("a")), doc(l...)} {
		_, e1 := movefind.Sources(d, 4)
		_, e2 := movefind.Targets(d, 4)
		_, _, e3 := movefind.Longest(d, 4, 0)
		_, e4 := movefind.Find(d, 4, 0)
		_, _, e5 := movefind.Mark(d, 4, 0)
		_, _, _, e6 := movefind.Score(d, 4)
		for k, e := range []api.Errno{e1, e2, e3, e4, e5, e6} {
			if e != api.ErrRevision {
				t.Errorf("%d, %d: the error is %d", i, k, e)
			}
		}
	}
}

// sides is a document with units of both sides, and with others.
func sides() api.Document {
	return doc(
		cut(text("a")), cut(bold(text("b"))), cut(para()), cut(samples.Anchor(api.CommentEnd, 1)), cut(note(8, text("n"), para())), cut(note(9, text("n"), put(text("m")))), del(text("c"), api.Del{Rev: 1, Move: 2}), cut(text("\u00e9\U0001F600")),
		del(text("d"), api.Del{Rev: 1}, api.Del{Rev: 2}), del(text("e"), api.Del{Rev: 2}), cut(ins(text("f"), 2, 0)), layered(cut(text("g")), 2), cut(samples.Field("x")),
		put(text("a")), put(bold(text("b"))), put(samples.Anchor(api.CommentEnd, 1)), ins(text("c"), 1, 2), del(put(text("d")), api.Del{Rev: 2}), layered(put(text("e")), 2), ins(text("f"), 2, 0), put(samples.Section()),
		cut(table(3, row(cell(4, cut(text("t")))), row(cell(5, put(text("u")))))), put(table(6, row(cell(7, text("v"))))), put(table(16, api.Row{Head: api.Head{Marks: api.Marks{Ins: 2}}, Cells: []api.Cell{cell(17)}})),
		cut(table(26, row(api.Cell{Id: 27, Head: layered(text(""), 3).Head}))),
	)
}

func TestP33_1Sides(t *testing.T) {
	d := sides()
	if got, e := movefind.Sources(d, 1); show(got) != show([]api.Range{span(0, 0, 3), span(0, 4, 5), span(0, 7, 9), span(0, 13, 14), span(4, 0, 1)}) || e != api.OK {
		t.Errorf("Sources = %v, %d", got, e)
	}
	if got, e := movefind.Targets(d, 1); show(got) != show([]api.Range{span(0, 14, 16), span(0, 21, 22), span(0, 23, 24), span(9, 1, 2), span(5, 0, 1)}) || e != api.OK {
		t.Errorf("Targets = %v, %d", got, e)
	}
	if got, e := movefind.Sources(d, 2); show(got) != show([]api.Range{span(0, 10, 11)}) || e != api.OK {
		t.Errorf("Sources = %v, %d", got, e)
	}
	for _, f := range []func(api.Document, int) ([]api.Range, api.Errno){movefind.Sources, movefind.Targets} {
		if got, e := f(d, 3); len(got) > 0 || e != api.OK {
			t.Errorf("the ranges of the revision 3 are %v, %d", got, e)
		}
	}
	manyDocuments(1500, 2, func(d api.Document, rev int) {
		before := show(d)
		got, e := movefind.Sources(d, rev)
		if want := naiveRanges(naiveSide(d, rev, true)); show(got) != show(want) || e != api.OK {
			t.Fatalf("Sources(%+v, %d) = %v, %d; want %v", d, rev, got, e, want)
		}
		got, e = movefind.Targets(d, rev)
		if want := naiveRanges(naiveSide(d, rev, false)); show(got) != show(want) || e != api.OK || show(d) != before {
			t.Fatalf("Targets(%s, %d) = %v, %d; want %v", before, rev, got, e, want)
		}
	})
}

// TestP33_1Many has more units than are searched.
func TestP33_1Many(t *testing.T) {
	d := doc(cut(text(strings.Repeat("a", 5000))), put(text(strings.Repeat("b", 5000))))
	if got, e := movefind.Sources(d, 1); show(got) != show([]api.Range{span(0, 0, 5000)}) || e != api.OK {
		t.Errorf("Sources = %v, %d", got, e)
	}
	if got, e := movefind.Targets(d, 1); show(got) != show([]api.Range{span(0, 5000, 10000)}) || e != api.OK {
		t.Errorf("Targets = %v, %d", got, e)
	}
}

func TestP33_2Same(t *testing.T) {
	end := note(1)
	end.Code = api.Endnote
	headed := func(h api.Head, cells ...api.Cell) api.Item {
		return table(1, api.Row{Head: h, Cells: cells})
	}
	inCell := func(h api.Head) api.Item { return table(1, row(api.Cell{Id: 2, Head: h})) }
	different := []api.Item{
		text("a"), text("b"), bold(text("a")), text("\u00e9"), para(), bold(para()), samples.Section(), samples.Break(api.Tab), samples.Break(api.LineBreak), samples.Field("a"), samples.Field("b"),
		note(1), end, note(1, text("a")), note(1, bold(text("a"))), note(1, para()), note(1, table(2, row(cell(3)))), note(1, table(2, row(cell(3), cell(4)))), note(1, samples.Anchor(api.CommentEnd, 1)), note(1, samples.Anchor(api.CommentEnd, 2)), note(1, samples.Start(1, "a")),
		bold(note(1)), table(1, row(cell(2))), table(1, row(cell(2), cell(3))), table(1, row(cell(2)), row(cell(3))), table(1, row(cell(2, text("a")))), table(1, row(cell(2, note(3)))), headed(api.Head{Props: []api.Prop{{Key: api.KeyHeader, Value: 1}}}, cell(2)), inCell(api.Head{Props: []api.Prop{{Key: api.KeyShade}}}),
	}
	other := func(item api.Item) api.Item { // other ids, other marks
		item = renumbered(flow(note(99, item)))[0].Flow[0]
		return layered(del(ins(item, 3, 4), api.Del{Rev: 1}, api.Del{Rev: 2, Move: 3}), 2)
	}
	for i, a := range different {
		for k, b := range different {
			if movefind.Same(a, b) != (i == k) || movefind.Same(a, other(b)) != (i == k) || movefind.Same(cut(a), put(b)) != (i == k) {
				t.Errorf("Same(%+v, %+v) = %t", a, b, i != k)
			}
		}
	}
	never := []api.Item{
		{}, {Kind: -1}, {Kind: 9}, text(""), text("ab"), text("\xFF"), text("\u00e9\u0301"), samples.Anchor(api.CommentEnd, 1), samples.Start(1, "a"),
		note(1, put(text("a"))), note(1, text("a"), cut(para())), note(1, layered(text("a"), 1)), note(1, table(2, row(cell(3, cut(text("a")))))), headed(put(text("")).Head, cell(2)), inCell(cut(text("")).Head), table(1, row(cell(2, note(3, put(text("a")))))),
	}
	for _, a := range never {
		for _, b := range append(never, different...) {
			if movefind.Same(a, b) || movefind.Same(b, a) || movefind.Same(a, a) {
				t.Errorf("Same(%+v, %+v)", a, b)
			}
		}
	}
	r := rand.New(rand.NewPCG(33, 3))
	equal := 0
	for range 20000 {
		m := maker{Rand: r}
		a, b := run.Normal(flow(m.item(2)))[0], run.Normal(flow(m.item(2)))[0]
		if r.IntN(4) == 0 {
			b = renumbered(flow(note(99, a)))[0].Flow[0]
		}
		want := a.Kind != api.Anchor && plainInside(a) && plainInside(b) && naiveContent(a) == naiveContent(b)
		if got := movefind.Same(a, b); got != want {
			t.Fatalf("Same(%+v, %+v) = %t", a, b, got)
		}
		if want && a.Kind >= api.Note {
			equal++
		}
	}
	if equal < 20 {
		t.Errorf("%d notes and tables are equal", equal)
	}
}

func TestP33_3Examples(t *testing.T) {
	d := doc(cut(text("abc")), text("x"), put(text("abcd")))
	want := found{span(0, 0, 3), span(0, 4, 7)}
	for least := 1; least < 6; least++ {
		f, is, e := movefind.Longest(d, 1, least)
		l, g := movefind.Find(d, 1, least)
		if least < 4 && (f != want || !is || show(l) != show([]found{want})) || least > 3 && (f != found{} || is || len(l) > 0) || e != api.OK || g != api.OK {
			t.Errorf("%d: Longest = %v, %t, %d, Find = %v, %d", least, f, is, e, l, g)
		}
	}
	for i, c := range []struct {
		d    api.Document
		want []found
	}{
		{doc(cut(text("ab")), text("ab")), nil}, {doc(cut(text("ab"))), nil}, {doc(put(text("ab"))), nil},
		{doc(cut(text("ab")), put(text("ab"))), []found{{span(0, 0, 2), span(0, 2, 4)}}}, {doc(put(text("ab")), cut(text("ab"))), []found{{span(0, 2, 4), span(0, 0, 2)}}},
		{doc(cut(text("ab")), put(text("abxab"))), []found{{span(0, 0, 2), span(0, 2, 4)}}}, {doc(cut(text("abxab")), put(text("ab"))), []found{{span(0, 0, 2), span(0, 5, 7)}}},
		{doc(cut(text("abxab")), put(text("abyab"))), []found{{span(0, 0, 2), span(0, 5, 7)}, {span(0, 3, 5), span(0, 8, 10)}}},
		{doc(cut(text("ab")), text("x"), cut(text("cd")), put(text("abcd"))), []found{{span(0, 0, 2), span(0, 5, 7)}, {span(0, 3, 5), span(0, 7, 9)}}},
		{doc(cut(text("abc")), cut(bold(text("d"))), put(text("abcd"))), []found{{span(0, 0, 3), span(0, 4, 7)}}},
		{doc(cut(text("aaaa")), put(text("aaa"))), []found{{span(0, 0, 3), span(0, 4, 7)}, {}}[:1]}, {doc(cut(text("aaaaa")), put(text("aa")), text("x"), put(text("aaa"))), []found{{span(0, 0, 3), span(0, 8, 11)}, {span(0, 3, 5), span(0, 5, 7)}}},
		{doc(note(3, put(text("ab"))), cut(text("ab")), put(text("ab"))), []found{{span(0, 1, 3), span(0, 3, 5)}}}, {doc(note(3, cut(text("ab"))), put(text("ab")), cut(text("ab"))), []found{{span(0, 3, 5), span(0, 1, 3)}}},
		{doc(table(1, row(cell(5, cut(text("ab"))), cell(4, cut(text("ab"))))), put(text("ab"))), []found{{span(5, 0, 2), span(0, 1, 3)}}},
		{doc(cut(text("x")), cut(note(1, text("a"))), cut(table(2, row(cell(3)))), put(text("x")), put(note(9, text("a"))), put(table(8, row(cell(7))))), []found{{span(0, 0, 3), span(0, 3, 6)}}},
		{doc(note(1, cut(text("a"))), note(2, cut(text("b"))), put(text("ab"))), nil}, {doc(cut(text("a")), cut(samples.Anchor(api.CommentEnd, 1)), cut(text("b")), put(text("a")), put(samples.Anchor(api.CommentEnd, 1)), put(text("b"))), nil},
		{doc(cut(text("xaby")), text("-"), put(text("aby")), text("-"), put(text("xab"))), []found{{span(0, 0, 3), span(0, 9, 12)}}},
	} {
		if got, e := movefind.Find(c.d, 1, 2); show(got) != show(c.want) || e != api.OK {
			t.Errorf("%d: Find = %v, %d; want %v", i, got, e, c.want)
		}
	}
}

func TestP33_3Naive(t *testing.T) {
	r := rand.New(rand.NewPCG(33, 4))
	several := 0
	manyDocuments(2000, 5, func(d api.Document, rev int) {
		least, before := 1+r.IntN(3), show(d)
		want := naiveFind(d, rev, least)
		got, e := movefind.Find(d, rev, least)
		if show(got) != show(want) || e != api.OK || show(d) != before {
			t.Fatalf("Find(%s, %d, %d) = %v, %d; want %v", before, rev, least, got, e, want)
		}
		f, is, e := movefind.Longest(d, rev, least)
		if is != (len(want) > 0) || is && f != want[0] || !is && f != (found{}) || e != api.OK {
			t.Fatalf("Longest(%s, %d, %d) = %v, %t, %d; want %v", before, rev, least, f, is, e, want)
		}
		if len(want) > 2 {
			several++
		}
	})
	if several < 300 {
		t.Errorf("%d documents have several moved ranges", several)
	}
}

// TestP33_3Strings searches all short strings of two letters, and longer ones.
func TestP33_3Strings(t *testing.T) {
	r := rand.New(rand.NewPCG(33, 6))
	check := func(a, b string) {
		d := doc(text("x"), put(text("-"+b)), cut(text("+"+a)))
		least := 1 + r.IntN(2)
		if got, e := movefind.Find(d, 1, least); show(got) != show(naiveFind(d, 1, least)) || e != api.OK {
			t.Fatalf("Find of %q and %q, %d: %v, %d; want %v", a, b, least, got, e, naiveFind(d, 1, least))
		}
	}
	for a := range samples.Strings([]string{"a", "b"}, 4) {
		for b := range samples.Strings([]string{"a", "b"}, 5) {
			check(a, b)
		}
	}
	random := func() string {
		var s strings.Builder
		for range r.IntN(40) {
			s.WriteString([]string{"a", "b", "ab", "aab"}[r.IntN(4)])
		}
		return s.String()
	}
	for range 100 {
		check(random(), random())
	}
}

func TestP33_3Errors(t *testing.T) {
	both := func(sources, targets int) api.Document {
		return doc(cut(text(strings.Repeat("a", sources))), text("x"), put(text(strings.Repeat("a", targets))), ins(text("x"), 3, 0))
	}
	for i, c := range []struct {
		d          api.Document
		rev, least int
		want       api.Errno
	}{
		{both(3, 3), 1, 0, api.ErrRange}, {both(3, 3), 1, -1, api.ErrRange}, {both(3, 3), 1, math.MinInt, api.ErrRange}, {both(3, 3), 1, math.MaxInt, api.OK}, {both(3, 3), 2, 1, api.ErrRevision}, {both(3, 3), 0, 0, api.ErrRevision},
		{both(2048, 1), 1, 1, api.OK}, {both(1, 2048), 1, 1, api.OK}, {both(2048, 2048), 1, 1, api.OK}, {both(2049, 1), 1, 1, api.ErrLimit}, {both(1, 2049), 1, 1, api.ErrLimit}, {both(2049, 0), 1, 1, api.ErrLimit}, {both(0, 2049), 1, 5000, api.ErrLimit}, {both(2049, 2049), 3, 1, api.OK}, {both(2049, 2049), 1, 0, api.ErrRange}, {both(2049, 2049), 9, 1, api.ErrRevision},
	} {
		f, is, e := movefind.Longest(c.d, c.rev, c.least)
		l, g := movefind.Find(c.d, c.rev, c.least)
		marked, count, h := movefind.Mark(c.d, c.rev, c.least)
		if e != c.want || g != c.want || h != c.want {
			t.Errorf("%d: Longest has the error %d, Find %d, Mark %d; want %d", i, e, g, h, c.want)
		}
		if c.want != api.OK && (f != found{} || is || l != nil || count != 0 || !document.Equal(marked, api.Document{})) {
			t.Errorf("%d: Longest = %v, %t, Find = %v, Mark = %+v, %d", i, f, is, l, marked, count)
		}
	}
}

// TestP33_3Large has the greatest sides that are searched.
func TestP33_3Large(t *testing.T) {
	var l, alone []api.Item
	for n := 1; n <= 63; n++ {
		l = append(l, cut(text(strings.Repeat("a", n))), text("x"), put(text(strings.Repeat("a", n))), text("x"))
	}
	for range movefind.MaxSide {
		alone = append(alone, cut(text("a")), put(text("a")))
	}
	for i, c := range []struct {
		d     api.Document
		count int
	}{{doc(l...), 63}, {doc(alone...), movefind.MaxSide}} {
		got, e := movefind.Find(c.d, 1, 1)
		if len(got) != c.count || e != api.OK {
			t.Errorf("%d: Find = %d ranges, %d", i, len(got), e)
		}
		for k, f := range got {
			if k > 0 && f.From.To-f.From.From > got[k-1].From.To-got[k-1].From.From || f.To.From != f.From.To+1-i {
				t.Errorf("%d: the range %d is %v", i, k, f)
			}
		}
	}
}

func TestP33_4Mark(t *testing.T) {
	d := doc(cut(text("abc")), text("x"), put(text("abcd")))
	want := doc(del(text("abc"), api.Del{Rev: 1, Move: 1}), text("x"), ins(text("abc"), 1, 1), put(text("d")))
	if got, count, e := movefind.Mark(d, 1, 2); !document.Equal(got, want) || count != 1 || e != api.OK || !samples.Apart(d, got) {
		t.Errorf("Mark = %+v, %d, %d; want %+v", got, count, e, want)
	}
	if got, count, e := movefind.Mark(d, 1, 4); !document.Equal(got, d) || count != 0 || e != api.OK || !samples.Apart(d, got) {
		t.Errorf("Mark = %+v, %d, %d", got, count, e)
	}
	numbered := doc(ins(text("q"), 1, 6), del(text("r"), api.Del{Rev: 1, Move: 7}), ins(text("s"), 2, 30), cut(text("ab")), text("x"), put(text("ab")), text("x"), cut(text("cde")), note(5, put(text("cde"))))
	want = doc(ins(text("q"), 1, 6), del(text("r"), api.Del{Rev: 1, Move: 7}), ins(text("s"), 2, 30), del(text("ab"), api.Del{Rev: 1, Move: 9}), text("x"), ins(text("ab"), 1, 9), text("x"), del(text("cde"), api.Del{Rev: 1, Move: 8}), note(5, ins(text("cde"), 1, 8)))
	if got, count, e := movefind.Mark(numbered, 1, 2); !document.Equal(got, want) || count != 2 || e != api.OK || !samples.Apart(numbered, got) {
		t.Errorf("Mark = %+v, %d, %d; want %+v", got, count, e, want)
	}
	r := rand.New(rand.NewPCG(33, 7))
	manyDocuments(1500, 8, func(d api.Document, rev int) {
		least, before := 1+r.IntN(3), show(d)
		l, _ := movefind.Find(d, rev, least)
		got, count, e := movefind.Mark(d, rev, least)
		if want := naiveMark(d, rev, l); !document.Equal(got, want) || count != len(l) || e != api.OK {
			t.Fatalf("Mark(%+v, %d, %d) = %+v, %d, %d; want %+v, %d", d, rev, least, got, count, e, want, len(l))
		}
		if show(d) != before || !samples.Apart(d, got) {
			t.Fatalf("Mark(%s, %d, %d) shares memory or has changed the document", before, rev, least)
		}
	})
}

func TestP33_4Limit(t *testing.T) {
	with := func(number, ranges int) api.Document {
		l := flow(ins(text("q"), 1, number), text("x"))
		for i := range ranges {
			s := string(rune('a' + i))
			l = append(l, cut(text(s)), text("x"), put(text(s)), text("x"))
		}
		return doc(l...)
	}
	for i, c := range []struct {
		number, ranges int
		want           api.Errno
	}{{api.MaxId, 0, api.OK}, {api.MaxId, 1, api.ErrLimit}, {api.MaxId - 1, 1, api.OK}, {api.MaxId - 1, 2, api.ErrLimit}, {api.MaxId - 3, 3, api.OK}, {api.MaxId - 3, 4, api.ErrLimit}, {0, 4, api.OK}} {
		d := with(c.number, c.ranges)
		got, count, e := movefind.Mark(d, 1, 1)
		if e != c.want || e == api.OK && (count != c.ranges || document.Check(got) != api.OK) || e != api.OK && (count != 0 || !document.Equal(got, api.Document{})) {
			t.Errorf("%d: Mark = %+v, %d, %d; want %d", i, got, count, e, c.want)
		}
		if _, e := movefind.Find(d, 1, 1); e != api.OK {
			t.Errorf("%d: Find has the error %d", i, e)
		}
	}
	inRow := with(0, 1)
	inRow.Flow = append(inRow.Flow, table(1, api.Row{Head: ins(text(""), 1, api.MaxId).Head, Cells: []api.Cell{cell(2)}}))
	if _, _, e := movefind.Mark(inRow, 1, 1); e != api.ErrLimit {
		t.Errorf("Mark has the error %d", e)
	}
}

func TestP33_5Score(t *testing.T) {
	for i, c := range []struct {
		d                                 api.Document
		rev, deleted, inserted, movedSize int
	}{
		{doc(cut(text("abc")), text("x"), put(text("abcd"))), 1, 3, 4, 0}, {doc(cut(text("abc")), ins(text("abcd"), 2, 0)), 2, 0, 4, 0},
		{doc(del(text("abc"), api.Del{Rev: 1, Move: 4}), ins(text("abc"), 1, 4), put(text("d"))), 1, 0, 1, 3}, {doc(del(text("ab"), api.Del{Rev: 1, Move: 4}, api.Del{Rev: 2}), cut(ins(text("c"), 2, 0))), 2, 2, 1, 0},
		{sides(), 1, 15, 10, 1}, {sides(), 2, 3, 2, 0}, {sides(), 3, 0, 0, 0},
	} {
		if x, y, z, e := movefind.Score(c.d, c.rev); x != c.deleted || y != c.inserted || z != c.movedSize || e != api.OK {
			t.Errorf("%d: Score = %d, %d, %d, %d; want %d, %d, %d", i, x, y, z, e, c.deleted, c.inserted, c.movedSize)
		}
	}
	manyDocuments(1000, 9, func(d api.Document, rev int) {
		deleted, inserted, moved := 0, 0, 0
		for _, id := range document.Flows(d) {
			l, _ := document.Flow(d, id)
			for _, u := range samples.Units(l) {
				m := u.Head.Marks
				if slices.Contains(m.Dels, api.Del{Rev: rev}) {
					deleted++
				} else if slices.ContainsFunc(m.Dels, func(d api.Del) bool { return d.Rev == rev }) {
					moved++
				}
				if m.Ins == rev && m.Move == 0 {
					inserted++
				}
			}
		}
		if x, y, z, e := movefind.Score(d, rev); x != deleted || y != inserted || z != moved || e != api.OK {
			t.Fatalf("Score(%+v, %d) = %d, %d, %d, %d; want %d, %d, %d", d, rev, x, y, z, e, deleted, inserted, moved)
		}
	})
}
