package compare_test

import (
	"math/rand/v2"
	"slices"
	"strings"
	"testing"

	"obelus/api"
	"obelus/compare"
	"obelus/document"
	"obelus/samples"
)

func TestP1AllArguments(t *testing.T) {
	r := rand.New(rand.NewPCG(32, 9))
	revs := []api.Rev{ann(), {}, {Id: 1, Author: "\xFF"}, {Id: 1, Author: "a", Time: -1}}
	long := samples.Doc(text(strings.Repeat("a ", api.MaxUnits)), para())
	many := doc(api.Item{Kind: api.Para})
	for key := range 100 {
		many.Flow[0].Head.Props = append(many.Flow[0].Head.Props, api.Prop{Key: key, Value: key})
	}
	wild := []api.Document{{}, long, many, doc(para()), doc(table(1), table(1, row(), row(cell(0)))), doc(text(""), api.Item{}, api.Item{Kind: 99, Flow: flow(text("\xFF"))}, text("\xFFa")), doc(note(0, text("\xFF"), note(0, table(0)))), {End: ins(text("a")).Head}, {End: layered(para(), api.Layer{Rev: 1}).Head}}
	for range 100 {
		wild = append(wild, samples.Wrong(r.IntN), samples.Plain(r.IntN))
	}
	seldom := func(n int) int { // often the choice with which Spoil changes nothing
		if r.IntN(10) > 0 {
			return n - 1
		}
		return r.IntN(n)
	}
	compared := 0
	for i := range 3000 {
		a, b, rev := wild[r.IntN(len(wild))], wild[r.IntN(len(wild))], revs[r.IntN(len(revs))*r.IntN(2)]
		switch i % 4 {
		case 0:
			a.Settings = b.Settings
		case 1:
			a, b = samples.Versions(r.IntN)
			samples.Spoil(seldom, b.Flow)
		case 2:
			a, b = samples.Versions(r.IntN)
			samples.Spoil(seldom, a.Flow)
		}
		d, e := compare.Compare(a, b, rev)
		if e != api.OK && !document.Equal(d, api.Document{}) || e == api.OK && document.Check(d) != api.OK {
			t.Fatalf("Compare(%+v, %+v) = %+v, %d", a, b, d, e)
		}
		if s, e := compare.Summarize(a, b); e != api.OK && s != (compare.Summary{}) {
			t.Fatalf("Summarize(%+v, %+v) = %+v, %d", a, b, s, e)
		}
		if own := compare.Check(a, b, rev); own != api.OK && own != e {
			t.Fatalf("Check(%+v, %+v) = %d; Compare has the error %d", a, b, own, e)
		}
		if e == api.OK {
			compared++
		}
	}
	if compared < 150 {
		t.Errorf("%d pairs have no error", compared)
	}
}

// TestP1Deep nests flows as deeply as the document permits.
func TestP1Deep(t *testing.T) {
	tables, notes := samples.Deep(1 << 16)
	for i, l := range [][]api.Item{tables, notes} {
		for k, c := range [][2]api.Document{{doc(l...), doc(l...)}, {doc(l...), doc(para())}, {doc(para()), doc(l...)}} {
			if d, e := compare.Compare(c[0], c[1], ann()); e == api.OK || !document.Equal(d, api.Document{}) {
				t.Errorf("%d, %d: Compare has the error %d", i, k, e)
			}
			if e := compare.Check(c[0], c[1], ann()); e != api.OK {
				t.Errorf("%d, %d: Check = %d", i, k, e)
			}
		}
	}
}

func TestP32_1Check(t *testing.T) {
	marked, other := doc(ins(text("a"))), doc(text("a"))
	marked.Revs = []api.Rev{ann()}
	other.Settings.Vars = []api.Var{{Name: "x"}}
	unused := doc(para())
	unused.Revs = []api.Rev{{Id: 5, Author: "Bob"}}
	empty := doc(text("a"))
	empty.Settings = api.Settings{Styles: []api.Style{}, Lists: []api.List{}, Comments: []api.Comment{}, Vars: []api.Var{}}
	end := doc(text("a"))
	end.Revs, end.End.Marks.Layers = []api.Rev{ann()}, []api.Layer{{Rev: 5, Key: api.KeyTop}}
	inside := doc(note(1, table(2, row(insCell(cell(3))))))
	inside.Revs = []api.Rev{ann()}
	for i, c := range []struct {
		a, b api.Document
		r    api.Rev
		want api.Errno
	}{
		{api.Document{}, api.Document{}, ann(), api.OK}, {unused, doc(text("a")), ann(), api.OK}, {doc(text("a")), empty, ann(), api.OK}, {other, other, ann(), api.OK},
		{marked, unused, ann(), api.ErrMark}, {unused, marked, ann(), api.ErrMark}, {end, unused, ann(), api.ErrMark}, {unused, inside, ann(), api.ErrMark}, {marked, other, api.Rev{}, api.ErrMark}, {other, marked, api.Rev{}, api.ErrMark},
		{unused, other, ann(), api.ErrConflict}, {other, unused, ann(), api.ErrConflict}, {other, unused, api.Rev{}, api.ErrConflict},
		{unused, unused, api.Rev{Author: "a"}, api.ErrId}, {unused, unused, api.Rev{Id: api.MaxId + 1, Author: "a"}, api.ErrId}, {unused, unused, api.Rev{Id: 1}, api.ErrEmpty}, {unused, unused, api.Rev{Id: 1, Author: strings.Repeat("a", 41)}, api.ErrLong},
		{unused, unused, api.Rev{Id: 1, Author: "\xFF", Time: -1}, api.ErrUTF8}, {unused, unused, api.Rev{Id: 1, Author: "a", Time: -1}, api.ErrTime}, {unused, unused, api.Rev{Id: api.MaxId, Author: strings.Repeat("a", 40), Time: api.MaxTime}, api.OK},
	} {
		if got := compare.Check(c.a, c.b, c.r); got != c.want {
			t.Errorf("%d: Check = %d; want %d", i, got, c.want)
		}
		if d, e := compare.Compare(c.a, c.b, c.r); e != c.want || e != api.OK && !document.Equal(d, api.Document{}) {
			t.Errorf("%d: Compare = %+v, %d; want %d", i, d, e, c.want)
		}
		if want := c.want; want != api.ErrMark && want != api.ErrConflict {
			if _, e := compare.Summarize(c.a, c.b); e != api.OK {
				t.Errorf("%d: Summarize has the error %d", i, e)
			}
		} else if s, e := compare.Summarize(c.a, c.b); e != want || s != (compare.Summary{}) {
			t.Errorf("%d: Summarize = %+v, %d; want %d", i, s, e, want)
		}
	}
}

// pair is two flows and what becomes of them.
type pair struct{ a, b, want []api.Item }

func wants(t *testing.T, pairs []pair) {
	t.Helper()
	for i, c := range pairs {
		a, b := doc(c.a...), doc(c.b...)
		want := document.Normal(api.Document{Flow: c.want, Revs: []api.Rev{ann()}})
		if document.Check(a) != api.OK || document.Check(b) != api.OK || document.Check(want) != api.OK {
			t.Errorf("%d: the documents have the errors %d, %d and %d", i, document.Check(a), document.Check(b), document.Check(want))
		}
		if got, e := compare.Compare(a, b, ann()); !document.Equal(got, want) || e != api.OK {
			t.Errorf("%d: Compare = %+v, %d; want %+v", i, got, e, want)
		}
		if s, e := compare.Summarize(a, b); s != naiveSummary(want.Flow) || e != api.OK {
			t.Errorf("%d: Summarize = %+v, %d; want %+v", i, s, e, naiveSummary(want.Flow))
		}
	}
}

// boldLayer returns the layer of a change from not bold to bold.
func boldLayer() api.Layer { return api.Layer{Rev: 5, Key: api.KeyBold} }

func TestP32_2Examples(t *testing.T) {
	wants(t, []pair{
		{flow(text("the old house"), para()), flow(text("the new house"), para()), flow(text("the "), del(text("old")), ins(text("new")), text(" house"), para())},
		{flow(text("the old house"), para()), flow(text("the new "), text("house", bold()), para()), flow(text("the "), del(text("old")), ins(text("new")), text(" "), layered(text("house", bold()), boldLayer()), para())},
		{flow(text("one two"), para()), flow(text("three four"), para()), flow(del(text("one two")), del(para()), ins(text("three four")), ins(para()))},
		{flow(text("the cat sat")), flow(text("the big cat")), flow(text("the "), ins(text("big ")), text("cat"), del(text(" sat")))},
		{nil, nil, nil}, {nil, flow(para()), flow(ins(para()))}, {flow(para()), nil, flow(del(para()))},
	})
}

func TestP32_2Tokens(t *testing.T) {
	tab, line := samples.Break(api.Tab), samples.Break(api.LineBreak)
	end := note(7, text("n"))
	end.Code = api.Endnote
	base := text("one two three four.")
	field, other := samples.Field("page"), samples.Field("pages")
	start, renamed := samples.Start(1, "x"), samples.Start(1, "y")
	next, comment := samples.Anchor(api.BookmarkEnd, 2), samples.Anchor(api.CommentEnd, 1)
	var all []pair
	for _, c := range [][2]api.Item{{tab, line}, {note(7, text("n")), end}, {field, other}, {start, renamed}, {samples.Anchor(api.BookmarkEnd, 1), next}, {samples.Anchor(api.BookmarkEnd, 1), comment}, {text("\t"), tab}, {text("\uFFFC"), field}, {field, start}, {text("\v"), line}} {
		changed := c[1]
		if changed.Kind == api.Note {
			changed.Id = 8
		}
		all = append(all, pair{flow(base, c[0], para()), flow(base, c[1], para()), flow(base, del(c[0]), ins(changed), para())})
		all = append(all, pair{flow(base, c[0], para()), flow(base, c[0], para()), flow(base, c[0], para())})
	}
	wants(t, append(all,
		pair{flow(text("a b c\r"), para()), flow(text("a b c"), para()), flow(text("a b c"), del(text("\r")), del(para()), ins(para()))},
		pair{flow(text("a b c\n"), para()), flow(text("a b c"), para()), flow(text("a b c"), del(text("\n")), para())},
		pair{flow(text("a b \n")), flow(text("a b "), para()), flow(text("a b "), del(text("\n")), ins(para()))},
		pair{flow(text("x y e\u0301")), flow(text("x y e"), text("\u0301", bold())), flow(text("x y e"), layered(text("\u0301", bold()), boldLayer()))},
		pair{flow(text("x y "), field, text("\u0301")), flow(text("x y "), field, text("\u0302")), flow(text("x y "), del(field), del(text("\u0301")), ins(field), ins(text("\u0302")))},
		pair{flow(text("x y "), field, text("\u0301")), flow(text("x y "), field), flow(text("x y "), del(field), del(text("\u0301")), ins(field))},
		pair{flow(text("x y a\u0301")), flow(text("x y a\u0300")), flow(text("x y "), del(text("a\u0301")), ins(text("a\u0300")))},
		pair{flow(base, field, text("\u0301")), flow(base, samples.Field("page1 \u0301")), flow(base, del(field), del(text("\u0301")), ins(samples.Field("page1 \u0301")))},
		pair{flow(base, samples.Field("1 1"), text("1")), flow(base, samples.Field("1"), text("1 1")), flow(base, del(samples.Field("1 1")), ins(samples.Field("1")), ins(text("1 ")), text("1"))},
	))
}

// TestP32_2Weights has lines of which only one of two tokens that cross each other can stay.
func TestP32_2Weights(t *testing.T) {
	words := "x y z "
	wants(t, []pair{
		{flow(text(words + "abc+")), flow(text(words + "+abc")), flow(text(words), ins(text("+")), text("abc"), del(text("+")))},
		{flow(text(words + "u  +")), flow(text(words + "u+  ")), flow(text(words+"u"), del(text("  ")), text("+"), ins(text("  ")))},
		// without a cost of changed regions, the first + would stay, and that of the second line; with the cost 2, nothing of the third line
		{flow(text(words + "%+&")), flow(text(words + "#+=+&")), flow(text(words), del(text("%")), ins(text("#+=")), text("+&"))},
		{flow(text(words + "%+&")), flow(text(words + "#+=")), flow(text(words), del(text("%+&")), ins(text("#+=")))},
		{flow(text(words + "%ab&")), flow(text(words + "#ab=")), flow(text(words), del(text("%")), ins(text("#")), text("ab"), del(text("&")), ins(text("=")))},
		{flow(text(words+"%+&"), para(), text(strings.Repeat("q", 1001)+"!")), flow(text(words+"%+&"), para(), text("!"+strings.Repeat("q", 1001))), flow(text(words+"%+&"), para(), ins(text("!")), text(strings.Repeat("q", 1001)), del(text("!")))},
	})
}

func TestP32_2Blocks(t *testing.T) {
	wide, narrow := section(api.Prop{Key: api.KeyPageWidth, Value: 9000}), section()
	center := api.Prop{Key: api.KeyAlign, Value: api.AlignCenter}
	wants(t, []pair{
		{flow(text("a"), para()), flow(text("a")), flow(text("a"), del(para()))}, {flow(text("a")), flow(text("a"), para()), flow(text("a"), ins(para()))},
		{flow(text("a b"), para(), text("c d"), para()), flow(text("a b c d"), para()), flow(text("a b"), ins(text(" c d")), para(), del(text("c d")), del(para()))},
		{flow(text("p"), para(), text("x"), para(), text("q"), para()), flow(text("p"), para(), text("y"), para(), text("z"), para(), text("q"), para()), flow(text("p"), para(), del(text("x")), del(para()), ins(text("y")), ins(para()), ins(text("z")), ins(para()), text("q"), para())},
		{flow(text("a"), narrow), flow(text("a"), wide), flow(text("a"), layered(wide, api.Layer{Rev: 5, Key: api.KeyPageWidth}))}, {flow(wide), flow(narrow), flow(layered(narrow, api.Layer{Rev: 5, Key: api.KeyPageWidth, Before: 9000, Had: true}))},
		{flow(text("a"), para(center)), flow(text("a"), para(bold())), flow(text("a"), layered(para(bold()), boldLayer(), api.Layer{Rev: 5, Key: api.KeyAlign, Before: api.AlignCenter, Had: true}))},
		{flow(text("a", bold()), para()), flow(text("a", api.Prop{Key: api.KeyBold, Value: 0}), para()), flow(layered(text("a", api.Prop{Key: api.KeyBold, Value: 0}), api.Layer{Rev: 5, Key: api.KeyBold, Before: 1, Had: true}), para())},
		{flow(samples.Anchor(api.CommentEnd, 1), section()), flow(samples.Anchor(api.CommentEnd, 2), section()), flow(del(samples.Anchor(api.CommentEnd, 1)), ins(samples.Anchor(api.CommentEnd, 2)), section())},
		{flow(text("a"), text("b"), para()), flow(text("ab"), para()), flow(text("ab"), para())},
	})
}

func TestP32_2Tables(t *testing.T) {
	width, header, shade := api.Prop{Key: api.KeyTableWidth, Value: 9}, api.Prop{Key: api.KeyHeader, Value: 1}, api.Prop{Key: api.KeyShade, Value: 3}
	headed, shaded := row(cell(32, text("one two"))), cell(22, text("three four"))
	headed.Head.Props, shaded.Head.Props = []api.Prop{header}, []api.Prop{shade}
	sized := table(30, headed, row(shaded))
	sized.Head.Props = []api.Prop{width}
	a := table(10, row(cell(11, text("one two"))), row(cell(12, text("three four"))))
	changed := table(10, row(cell(11, text("one two"))), row(cell(12, text("three four"))))
	changed.Head = layered(sized, api.Layer{Rev: 5, Key: api.KeyTableWidth}).Head
	changed.Rows[0].Head = api.Head{Props: []api.Prop{header}, Marks: api.Marks{Layers: []api.Layer{{Rev: 5, Key: api.KeyHeader}}}}
	changed.Rows[1].Cells[0].Head = api.Head{Props: []api.Prop{shade}, Marks: api.Marks{Layers: []api.Layer{{Rev: 5, Key: api.KeyShade}}}}
	wants(t, []pair{
		{flow(a), flow(sized), flow(changed)},
		{flow(table(1, row(cell(2, text("xyzw"))))), flow(table(1, row(cell(2, text("uvst"))))), flow(del(table(1, row(cell(2, text("xyzw"))))), ins(table(3, row(cell(4, text("uvst"))))))},
		{flow(table(1, row(cell(2, text("a b c"))), row(cell(3, text("d"))))), flow(table(1, row(cell(2, text("e"))), row(cell(3, text("a b x"))))), flow(table(1, insRow(row(cell(4, text("e")))), row(cell(2, text("a b "), del(text("c")), ins(text("x")))), delRow(row(cell(3, text("d"))))))},
		{flow(table(1, row(cell(2, text("a b c")), cell(3, text("d"))))), flow(table(5, row(cell(6, text("e")), cell(7, text("a b x"))))), flow(table(1, row(insCell(cell(4, text("e"))), cell(2, text("a b "), del(text("c")), ins(text("x"))), delCell(cell(3, text("d"))))))},
		{flow(table(1, row(cell(2, text("p q r s"))), row(cell(3, text("dddd"))))), flow(table(1, row(cell(2, text("p q r s"))), row(cell(3, text("eeee"))))), flow(table(1, row(cell(2, text("p q r s"))), delRow(row(cell(3, text("dddd")))), insRow(row(cell(4, text("eeee"))))))},
		{flow(table(1, row(cell(2, text("p q r s")), cell(3, text("d"))))), flow(table(1, row(cell(2, text("p q r s")), cell(3, text("e"))))), flow(table(1, row(cell(2, text("p q r s")), delCell(cell(3, text("d"))), insCell(cell(4, text("e"))))))},
		{flow(text("a"), para(), table(1, row(cell(2)))), flow(table(1, row(cell(2))), text("a"), para()), flow(del(text("a")), del(para()), table(1, row(cell(2))), ins(text("a")), ins(para()))},
	})
}

func TestP32_2Notes(t *testing.T) {
	words := text("a b c")
	wants(t, []pair{
		{flow(words, note(4, text("see this"))), flow(words, note(9, text("see that"))), flow(words, note(4, text("see "), del(text("this")), ins(text("that"))))},
		{flow(words, note(4, text("x"), para())), flow(words, note(4, text("y"), para())), flow(words, note(4, del(text("x")), del(para()), ins(text("y")), ins(para())))},
		{flow(words, note(4, table(7, row(cell(6, text("p q r")))))), flow(words, note(1, table(2, row(cell(3, text("p q s")))))), flow(words, note(4, table(7, row(cell(6, text("p q "), del(text("r")), ins(text("s")))))))},
		{flow(words, note(4, text("x"))), flow(words), flow(words, del(note(4, text("x"))))}, {flow(words, note(4)), flow(words, note(1), note(2)), flow(words, note(4), ins(note(5)))},
	})
}

// TestP32_2Ids has new notes, tables and cells at several depths.
func TestP32_2Ids(t *testing.T) {
	words := text("a b c d e f g h ")
	wants(t, []pair{
		{flow(words, note(50), para()), flow(table(2, row(cell(1, note(3))), row(cell(4, table(5, row(cell(6)))), cell(7))), words, note(8, table(9, row(cell(10)))), note(11), para(), note(12)),
			flow(ins(table(51, row(cell(52, note(53))), row(cell(54, table(55, row(cell(56)))), cell(57)))), words, note(50, ins(table(58, row(cell(59))))), ins(note(60)), para(), ins(note(61)))},
		{flow(table(3, row(cell(9, text("k l m n"))))), flow(table(1, row(cell(2, note(3)), cell(4, text("k l m n"), note(5))), row(cell(7)))), flow(table(3, row(insCell(cell(10, note(11))), cell(9, text("k l m n"), ins(note(12)))), insRow(row(cell(13)))))},
		{flow(note(7, note(1)), words)[1:], flow(note(7), words), flow(ins(note(1)), words)},
	})
}

// TestP32_2NotNormal has documents that are not in normal form, with revisions that they do not use.
func TestP32_2NotNormal(t *testing.T) {
	a := doc(text("the o"), text("ld hou"), text("se"), para())
	b := doc(text("the"), text(" "), text("new house"), para())
	a.Revs, b.Revs = []api.Rev{{Id: 5, Author: "Bob"}, {Id: 6, Author: "Bob"}}, []api.Rev{{Id: 7, Author: "Cyd"}}
	a.Settings = api.Settings{Vars: []api.Var{{Name: "v", Value: "1"}}}
	b.Settings = document.Clone(a).Settings
	want := api.Document{Flow: flow(text("the "), del(text("old")), ins(text("new")), text(" house"), para()), Revs: []api.Rev{ann()}, Settings: a.Settings}
	if got, e := compare.Compare(a, b, ann()); !document.Equal(got, want) || e != api.OK || !samples.Apart(a, b, got) {
		t.Errorf("Compare = %+v, %d; want %+v", got, e, want)
	}
	if got, e := compare.Compare(a, a, ann()); !document.Equal(got, plain(a)) || e != api.OK || len(got.Revs) > 0 || !samples.Apart(a, got) {
		t.Errorf("Compare = %+v, %d; want %+v", got, e, plain(a))
	}
}

func TestP32_2End(t *testing.T) {
	top, bottom := api.Prop{Key: api.KeyTop, Value: 5}, api.Prop{Key: api.KeyBottom, Value: 6}
	a, b := doc(para()), doc(para())
	a.End.Props, b.End.Props = []api.Prop{top}, []api.Prop{bottom}
	want := api.Document{Flow: flow(para()), Revs: []api.Rev{ann()}, End: api.Head{Props: []api.Prop{bottom}, Marks: api.Marks{Layers: []api.Layer{{Rev: 5, Key: api.KeyTop, Before: 5, Had: true}, {Rev: 5, Key: api.KeyBottom}}}}}
	if got, e := compare.Compare(a, b, ann()); !document.Equal(got, want) || e != api.OK || !samples.Apart(a, b, got) {
		t.Errorf("Compare = %+v, %d; want %+v", got, e, want)
	}
	if got, e := compare.Summarize(a, b); got != (compare.Summary{}) || e != api.OK {
		t.Errorf("Summarize = %+v, %d", got, e)
	}
}

// hasError compares two documents that have an error, if it is not OK.
func hasError(t *testing.T, what string, a, b api.Document, want api.Errno) {
	t.Helper()
	if document.Check(a) != api.OK || document.Check(b) != api.OK {
		t.Errorf("%s: the documents have the errors %d and %d", what, document.Check(a), document.Check(b))
	}
	d, e := compare.Compare(a, b, ann())
	s, f := compare.Summarize(a, b)
	if e != want || f != want {
		t.Errorf("%s: Compare has the error %d, Summarize %d; want %d", what, e, f, want)
	}
	if e != api.OK && (!document.Equal(d, api.Document{}) || s != compare.Summary{}) {
		t.Errorf("%s: Compare = %+v, Summarize = %+v", what, d, s)
	}
}

func TestP32_2TooManyTokens(t *testing.T) {
	full := strings.Repeat("!", 2048)
	most, more := doc(text(full)), doc(text(full), para())
	hasError(t, "2048 tokens", most, most, api.OK)
	hasError(t, "2049 tokens", more, more, api.ErrLimit)
	hasError(t, "2049 tokens in the second document", most, more, api.ErrLimit)
	hasError(t, "2049 tokens in the first document", more, most, api.ErrLimit)
	hasError(t, "2049 tokens, not compared", more, doc(text("a"), para()), api.OK)
	hasError(t, "2049 tokens, inserted", doc(para()), more, api.OK)
	words := text("a b c")
	hasError(t, "2049 tokens in a note", doc(words, note(1, more.Flow...)), doc(words, note(1, more.Flow...)), api.ErrLimit)
	hasError(t, "2049 tokens in a cell", doc(table(1, row(cell(2, more.Flow...)))), doc(table(1, row(cell(2, more.Flow...)))), api.ErrLimit)
	hasError(t, "2048 tokens of several units", doc(text(strings.Repeat("ab ", 1024))), doc(text(strings.Repeat("ab ", 1024))), api.OK)
}

func TestP32_2TooManyBlocks(t *testing.T) {
	most, more := slices.Repeat(flow(para()), 1024), slices.Repeat(flow(para()), 1025)
	words := text("a b c d e f g h")
	hasError(t, "1024 blocks", doc(most...), doc(most...), api.OK)
	hasError(t, "1025 blocks", doc(more...), doc(most...), api.ErrLimit)
	hasError(t, "1025 blocks in the second document", doc(), doc(more...), api.ErrLimit)
	hasError(t, "1025 blocks in a note", doc(words, note(1, more...)), doc(words, note(1)), api.ErrLimit)
	hasError(t, "1025 blocks in a note that is deleted", doc(words, note(1, more...)), doc(words), api.OK)
	hasError(t, "1025 blocks in a cell that is inserted", doc(table(1, row(cell(2, words)))), doc(table(1, row(cell(2, words), cell(3, more...)))), api.OK)
	hasError(t, "1025 blocks in a cell", doc(table(1, row(cell(2, words)), row(cell(3, more...)))), doc(table(1, row(cell(2, words)), row(cell(3, more...)))), api.ErrLimit)
	last := doc(words, note(api.MaxId), para())
	hasError(t, "1025 blocks, and the last id", doc(append(more, last.Flow...)...), doc(words, note(1), note(2)), api.ErrLimit)
}

func TestP32_2Units(t *testing.T) {
	paras := func(s string, count int) []api.Item {
		return slices.Repeat(flow(text(strings.Repeat(s, 30)), para()), count)
	}
	last := doc(append(paras("x", 265), note(api.MaxId))...) // 31 * 265 + 1
	hasError(t, "16384 units", doc(append(paras("x", 264), text("a"))...), doc(append(paras("y", 264), text("b"), text(strings.Repeat("z", 13)), samples.Break(api.Tab))...), api.OK)
	hasError(t, "16385 units", doc(append(paras("x", 264), text("a"))...), doc(append(paras("y", 264), text("b"), text(strings.Repeat("z", 14)), samples.Break(api.Tab))...), api.ErrLimit)
	hasError(t, "many units, and no new id", last, doc(paras("y", 265)...), api.ErrLimit)
	hasError(t, "many units, and a new id", last, doc(append(paras("y", 265), note(1), note(2))...), api.ErrId)
	long := doc(text(strings.Repeat("a", api.MaxUnits+1)))
	if _, e := compare.Compare(doc(para()), long, ann()); e != api.ErrLimit {
		t.Errorf("Compare has the error %d", e)
	}
	if _, e := compare.Compare(long, doc(para()), ann()); e != api.ErrLimit {
		t.Errorf("Compare has the error %d", e)
	}
}

func TestP32_2TooManyRows(t *testing.T) {
	rows := func(common, own int, s string) []api.Row {
		var l []api.Row
		for i := range common + own {
			word := "same"
			if i >= common {
				word = s
			}
			l = append(l, row(cell(i+2, text(word))))
		}
		return l
	}
	hasError(t, "256 rows", doc(table(1, rows(156, 50, "xxxx")...)), doc(table(1, rows(156, 50, "yyyy")...)), api.OK)
	hasError(t, "257 rows", doc(table(1, rows(156, 50, "xxxx")...)), doc(table(1, rows(156, 51, "yyyy")...)), api.ErrLimit)
	idBefore := func(id int) api.Document { return doc(note(id), table(1, rows(156, 50, "xxxx")...)) }
	more := doc(note(300), table(1, rows(156, 51, "yyyy")...))
	hasError(t, "257 rows, and the last id", idBefore(api.MaxId-51), more, api.ErrLimit)
	hasError(t, "257 rows, and a greater id", idBefore(api.MaxId-50), more, api.ErrId)
	cells := func(common, own int, s string) api.Row {
		var r api.Row
		for _, one := range rows(common, own, s) {
			r.Cells = append(r.Cells, one.Cells...)
		}
		return r
	}
	hasError(t, "32 cells", doc(table(1, cells(20, 6, "x"))), doc(table(1, cells(20, 6, "y"))), api.OK)
	hasError(t, "33 cells", doc(table(1, cells(20, 6, "x"))), doc(table(1, cells(20, 7, "y"))), api.ErrLimit)
}

func TestP32_2LastIds(t *testing.T) {
	words := text("a b c d")
	last := func(id int) api.Document { return doc(words, note(id), para()) }
	hasError(t, "no new id", last(api.MaxId), doc(words, note(1), para()), api.OK)
	hasError(t, "no new id of a deleted note", last(api.MaxId), doc(words, para()), api.OK)
	hasError(t, "a new id", last(api.MaxId), doc(words, note(1), note(2), para()), api.ErrId)
	hasError(t, "two new ids", last(api.MaxId-2), doc(words, note(1), table(2, row(cell(3)))), api.OK)
	hasError(t, "three new ids", last(api.MaxId-2), doc(words, note(1), table(2, row(cell(3, note(4))))), api.ErrId)
}

func TestP32_3Summarize(t *testing.T) {
	a := doc(text("the old house"), para(), table(1, row(cell(2, text("one two three"))), row(cell(3, text("x")))))
	b := doc(text("the new "), text("house", bold()), note(8, text("abc"), para()), para(), table(1, row(cell(2, text("one two three")), cell(4, text("abcdef"), para())), row(cell(3, table(5, row(cell(6)))))))
	b.Flow[4].Head.Props = []api.Prop{{Key: api.KeyTableWidth, Value: 7}}
	b.Flow[4].Rows[0].Head.Props = []api.Prop{{Key: api.KeyHeader, Value: 1}}
	b.Flow[4].Rows[0].Cells[0].Head.Props = []api.Prop{{Key: api.KeyShade, Value: 1}}
	want := compare.Summary{Inserted: 4, Deleted: 3, Formatted: 6, TablesInserted: 2, TablesDeleted: 1, TablesFormatted: 2}
	if got, e := compare.Summarize(a, b); got != want || e != api.OK {
		t.Errorf("Summarize = %+v, %d; want %+v", got, e, want)
	}
	if got, e := compare.Summarize(doc(text("the old house"), para()), doc(text("the new "), text("house", bold()), para())); got != (compare.Summary{Inserted: 3, Deleted: 3, Formatted: 5}) || e != api.OK {
		t.Errorf("Summarize = %+v, %d", got, e)
	}
}
