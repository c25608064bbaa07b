package blockmatch_test

import (
	"math"
	"math/rand/v2"
	"slices"
	"strings"
	"testing"

	"obelus/alignment"
	"obelus/api"
	"obelus/blockmatch"
	"obelus/samples"
)

func TestP1AllArguments(t *testing.T) {
	r := rand.New(rand.NewPCG(31, 1))
	numbers := append(samples.Numbers(), 399, 400, 1000, 1001)
	for i := range 3000 {
		a, b := samples.Wrong(r.IntN).Flow, samples.Wrong(r.IntN).Flow
		if i%3 == 0 {
			a = append(a, table(1), table(2, row(), row(cell(0))), text(""), api.Item{Kind: 99, Flow: flow(broken())}, api.Item{})
		}
		blocks, e1 := blockmatch.Blocks(a, b)
		rows, e2 := blockmatch.Rows(rowsIn(a), rowsIn(b))
		cells, e3 := blockmatch.Cells(cellsIn(a), cellsIn(b))
		if e1 != api.OK && blocks != nil || e2 != api.OK && rows != nil || e3 != api.OK && cells != nil {
			t.Fatalf("%+v and %+v: %v, %v, %v", a, b, blocks, rows, cells)
		}
		if l, e := blockmatch.Strings(a); e != api.OK && l != nil {
			t.Fatalf("Strings(%+v) = %q, %d", a, l, e)
		}
		x, y := string([]byte{byte(r.IntN(256)), byte(r.IntN(256))}), string([]byte{byte(r.IntN(256)), 'a'})
		xs, ys, e := blockmatch.Tokens(x, y)
		similarity, f := blockmatch.Similarity(x, y)
		if e != f || e != api.OK && (xs != nil || ys != nil || similarity != 0) {
			t.Fatalf("Tokens(%q, %q) = %v, %v, %d, Similarity = %d, %d", x, y, xs, ys, e, similarity, f)
		}
		var scores [][]int
		for range r.IntN(4) {
			scores = append(scores, nil)
			for range 2 + r.IntN(9)/8 {
				scores[len(scores)-1] = append(scores[len(scores)-1], numbers[r.IntN(len(numbers))])
			}
		}
		if l, e := blockmatch.Best(scores); e != api.OK && l != nil {
			t.Fatalf("Best(%v) = %v, %d", scores, l, e)
		}
	}
}

// TestP1Deep nests flows as deeply as the document permits.
func TestP1Deep(t *testing.T) {
	tables, notes := samples.Deep(1 << 16)
	for i, l := range [][]api.Item{tables, notes} {
		if got, e := blockmatch.Blocks(l, l); e != api.OK || len(got) != 3-2*i {
			t.Errorf("%d: Blocks = %v, %d", i, got, e)
		}
		if got, e := blockmatch.Strings(l); e != api.OK || len(got) != 3-2*i {
			t.Errorf("%d: Strings = %q, %d", i, got, e)
		}
		if got, e := blockmatch.Cells([]api.Cell{cell(1, l...)}, []api.Cell{cell(1, l...)}); e != api.OK || show(got) != "[{A:0 B:0 Score:1000}]" {
			t.Errorf("%d: Cells = %v, %d", i, got, e)
		}
	}
	tables, notes = samples.Deep(1)
	tables[1].Rows[0].Cells[0].Flow, notes[1].Flow = flow(broken()), flow(broken())
	for range 1 << 15 {
		tables, notes = flow(table(1, row(cell(2, tables...)))), flow(note(1, notes...))
	}
	for i, l := range [][]api.Item{tables, notes} {
		if _, e := blockmatch.Blocks(nil, l); e != api.ErrUTF8 {
			t.Errorf("%d: Blocks has the error %d", i, e)
		}
		if _, e := blockmatch.Rows([]api.Row{row(cell(1, l...))}, nil); e != api.ErrUTF8 {
			t.Errorf("%d: Rows has the error %d", i, e)
		}
	}
}

// list returns tokens, for each one its key and its weight.
func list(numbers ...int) []token {
	var l []token
	for i := 0; i < len(numbers); i += 2 {
		l = append(l, token{Key: numbers[i], Weight: numbers[i+1]})
	}
	return l
}

func TestP31_1Tokens(t *testing.T) {
	long, longer := strings.Repeat("x", 1000), strings.Repeat("x", 1001)
	for i, c := range []struct {
		a, b string
		x, y []token
	}{
		{"", "", nil, nil}, {"a", "", list(1, 1), nil}, {"", "ab", nil, list(1, 2)},
		{"the cat", "a cat", list(1, 3, 2, 1, 3, 3), list(4, 1, 2, 1, 3, 3)},
		{"a  a a", "a  b", list(1, 1, 2, 1, 1, 1, 3, 1, 1, 1), list(1, 1, 2, 1, 4, 1)},
		{"\u00a0", " ", list(1, 1), list(2, 1)}, {"\u00a0 \u3000", "\r\n", list(1, 1), list(2, 2)}, {"3.5", "It's,", list(1, 3), list(2, 4, 3, 1)},
		{"e\u0301", "\u00e9", list(1, 2), list(2, 1)}, {"!\u0301", "!", list(1, 2), list(2, 1)}, {"\u4e00\u4e8c", "\u4e8c\uFFFC", list(1, 1, 2, 1), list(2, 1, 3, 1)},
		{long + " " + longer, longer + "!", list(1, 1000, 2, 1, 3, 1000), list(3, 1000, 4, 1)}, {"A", "a", list(1, 1), list(2, 1)},
	} {
		if x, y, e := blockmatch.Tokens(c.a, c.b); show(x) != show(c.x) || show(y) != show(c.y) || e != api.OK {
			t.Errorf("%d: Tokens = %v, %v, %d; want %v, %v", i, x, y, e, c.x, c.y)
		}
	}
	for i, c := range [][2]string{{"\xFF", ""}, {"", "\xFF"}, {"a\xED\xA0\x80", "b"}, {"\xC0\x80", "\xFF"}, {"ab", "ab\xE2\x82"}} {
		if x, y, e := blockmatch.Tokens(c[0], c[1]); len(x)+len(y) != 0 || e != api.ErrUTF8 {
			t.Errorf("%d: Tokens = %v, %v, %d", i, x, y, e)
		}
		if got, e := blockmatch.Similarity(c[0], c[1]); got != 0 || e != api.ErrUTF8 {
			t.Errorf("%d: Similarity = %d, %d", i, got, e)
		}
	}
	r := rand.New(rand.NewPCG(31, 2))
	for range 5000 {
		a := words(r, 12)
		b := changed(r, a)
		wantX, wantY := naiveTokens(a, b)
		if x, y, e := blockmatch.Tokens(a, b); show(x) != show(wantX) || show(y) != show(wantY) || e != api.OK {
			t.Fatalf("Tokens(%q, %q) = %v, %v, %d; want %v, %v", a, b, x, y, e, wantX, wantY)
		}
	}
}

// TestP31_1Long has strings with more tokens than count.
func TestP31_1Long(t *testing.T) {
	full := strings.Repeat("!", alignment.MaxTokens)
	x, y, e := blockmatch.Tokens(full+"?", "?"+full)
	if len(x) != alignment.MaxTokens || len(y) != alignment.MaxTokens || x[2047] != (token{Key: 1, Weight: 1}) || y[0] != (token{Key: 2, Weight: 1}) || y[1] != (token{Key: 1, Weight: 1}) || e != api.OK {
		t.Errorf("Tokens = %d, %d, %d", len(x), len(y), e)
	}
	x, y, e = blockmatch.Tokens(full+"?a\xE2\x82\xAC", "a")
	if len(x) != alignment.MaxTokens || show(y) != show(list(2, 1)) || e != api.OK {
		t.Errorf("Tokens = %d, %v, %d", len(x), y, e)
	}
	if _, _, e := blockmatch.Tokens(full+"?\xFF", ""); e != api.ErrUTF8 {
		t.Errorf("Tokens has the error %d", e)
	}
	for i, c := range []struct {
		a, b string
		want int
	}{{full + "?", full + "a", 1000}, {full + "?", "?" + full, 999}, {full, full[:1024], 666}, {full + full, full, 1000}} {
		if got, e := blockmatch.Similarity(c.a, c.b); got != c.want || e != api.OK {
			t.Errorf("%d: Similarity = %d, %d; want %d", i, got, e, c.want)
		}
	}
}

func TestP31_1Similarity(t *testing.T) {
	for i, c := range []struct {
		a, b string
		want int
	}{
		{"", "", 1000}, {"a", "", 0}, {"", " ", 0}, {"the cat", "a cat", 666}, {"the cat", "the cat", 1000}, {"one two", "two one", 428}, {"A", "a", 0}, {"e\u0301", "\u00e9", 0}, {"ab cd", "ab  cd", 800}, {"abcd e", "abcd f", 833}, {"\n", "\n\n", 666},
	} {
		if got, e := blockmatch.Similarity(c.a, c.b); got != c.want || e != api.OK {
			t.Errorf("%d: Similarity = %d, %d; want %d", i, got, e, c.want)
		}
	}
	r := rand.New(rand.NewPCG(31, 3))
	for range 5000 {
		a := words(r, 12)
		b := changed(r, a)
		got, e := blockmatch.Similarity(a, b)
		other, _ := blockmatch.Similarity(b, a)
		if want := naiveSimilarity(a, b); got != want || other != want || e != api.OK {
			t.Fatalf("Similarity(%q, %q) = %d, %d, %d; want %d", a, b, got, other, e, want)
		}
		if same, e := blockmatch.Similarity(a, strings.Clone(a)); same != 1000 || e != api.OK {
			t.Fatalf("Similarity of %q with itself is %d, %d", a, same, e)
		}
	}
}

func TestP31_2Best(t *testing.T) {
	for i, c := range []struct {
		scores [][]int
		want   []match
	}{
		{nil, nil}, {[][]int{{}}, nil}, {[][]int{nil, {}}, nil}, {[][]int{{399}}, nil}, {[][]int{{400}}, []match{{0, 0, 400}}}, {[][]int{{0}}, nil}, {[][]int{{1000}}, []match{{0, 0, 1000}}},
		{[][]int{{500, 900}, {1000, 600}}, []match{{0, 0, 500}, {1, 1, 600}}}, {[][]int{{500, 900}, {1000, 499}}, []match{{1, 0, 1000}}}, {[][]int{{500, 900}, {900, 399}}, []match{{1, 0, 900}}}, {[][]int{{399, 900}, {399, 500}}, []match{{0, 1, 900}}},
		{[][]int{{800, 800, 800}}, []match{{0, 0, 800}}}, {[][]int{{800}, {800}, {800}}, []match{{0, 0, 800}}}, {[][]int{{700, 800, 800}}, []match{{0, 1, 800}}}, {[][]int{{500, 1000}, {1000, 500}}, []match{{0, 0, 500}, {1, 1, 500}}}, {[][]int{{400, 800}, {800, 400}}, []match{{0, 0, 400}, {1, 1, 400}}},
		{[][]int{{0, 400, 0}, {400, 0, 400}}, []match{{0, 1, 400}, {1, 2, 400}}},
	} {
		if got, e := blockmatch.Best(c.scores); show(got) != show(c.want) || e != api.OK {
			t.Errorf("%d: Best = %v, %d; want %v", i, got, e, c.want)
		}
	}
	r := rand.New(rand.NewPCG(31, 4))
	for i := range 20000 {
		numbers := [][]int{{0, 399, 400, 401, 800}, {400, 400, 800, 1000}, {0, 1, 398, 399, 400}, {500, 500, 1000, 0}}[i%4]
		rows, columns := r.IntN(5), r.IntN(5)
		var scores [][]int
		for range rows {
			var one []int
			for range columns {
				one = append(one, numbers[r.IntN(len(numbers))])
			}
			scores = append(scores, one)
		}
		before := show(scores)
		if got, e := blockmatch.Best(scores); show(got) != show(naiveBest(scores)) || e != api.OK || show(scores) != before {
			t.Fatalf("Best(%v) = %v, %d; want %v", scores, got, e, naiveBest(scores))
		}
	}
}

// square returns a table with a number everywhere.
func square(rows, columns, number int) [][]int {
	var scores [][]int
	for range rows {
		scores = append(scores, slices.Repeat([]int{number}, columns))
	}
	return scores
}

func TestP31_2Errors(t *testing.T) {
	wide := [][]int{{-1}, slices.Repeat([]int{5}, 1025)}
	for i, c := range []struct {
		scores [][]int
		want   api.Errno
	}{
		{square(1024, 1, 0), api.OK}, {square(1, 1024, 1000), api.OK}, {square(1025, 1, 0), api.ErrLimit}, {square(1, 1025, 0), api.ErrLimit}, {square(1025, 0, 0), api.ErrLimit}, {square(1025, 1, -1), api.ErrLimit}, {append(square(1024, 1, -1), []int{1, 2}), api.ErrLimit},
		{[][]int{{1}, {1, 2}}, api.ErrFormat}, {[][]int{{1, 2}, {1}}, api.ErrFormat}, {[][]int{{}, {1}}, api.ErrFormat}, {[][]int{{1}, nil}, api.ErrFormat}, {[][]int{{1}, {2}, {-1, -1}}, api.ErrFormat},
		{[][]int{{-1}}, api.ErrRange}, {[][]int{{1001}}, api.ErrRange}, {[][]int{{0, 1000}, {0, 1001}}, api.ErrRange}, {[][]int{{math.MinInt}}, api.ErrRange}, {[][]int{{math.MaxInt}}, api.ErrRange},
		{[][]int{{-1}, {1, 2}}, api.ErrRange}, {[][]int{{1}, {1, 2}, {-1}}, api.ErrFormat}, {wide, api.ErrRange}, {[][]int{wide[1], {-1}}, api.ErrLimit}, {[][]int{{1}, wide[1]}, api.ErrLimit}, {[][]int{{1}, {}, wide[1]}, api.ErrFormat},
	} {
		if got, e := blockmatch.Best(c.scores); e != c.want || e != api.OK && got != nil {
			t.Errorf("%d: Best = %v, %d; want %d", i, got, e, c.want)
		}
	}
}

func TestP31_3Strings(t *testing.T) {
	for i, c := range []struct {
		l    []api.Item
		want []string
	}{
		{nil, nil}, {paras(""), []string{""}}, {flow(text("ab"), text("c", api.Prop{Key: api.KeyBold, Value: 1}), para(), text("d")), []string{"abc", "d"}},
		{flow(text("a"), section(), section(), text("b\n"), para()), []string{"a", "\x1D", "\x1D", "b\n"}}, {flow(samples.Anchor(api.CommentStart, 1), samples.Start(2, "x"), table(1, row(cell(2))), samples.Anchor(api.CommentEnd, 1)), []string{"\uFFFC\uFFFC", "\n", "\uFFFC"}},
		{flow(text("\u00e9\U0001F600"), samples.Break(api.Tab), note(9, text("x")), para(), table(1, row(cell(2, text("ab"), para(), text("c")), cell(3)), row(cell(4, table(5, row(cell(6, text("no")))), note(7, text("n"))))), para(), text("z"), table(8, row(cell(10, text("e"))))),
			[]string{"\u00e9\U0001F600\t\uFFFC", "ab\nc\n\n\uFFFC\uFFFC\n", "", "z", "e\n"}},
	} {
		if got, e := blockmatch.Strings(c.l); show(got) != show(c.want) || e != api.OK {
			t.Errorf("%d: Strings = %q, %d; want %q", i, got, e, c.want)
		}
	}
	manyFlows(2000, 5, func(_ *rand.Rand, a, _ []api.Item) {
		got, e := blockmatch.Strings(a)
		if _, want := naiveStrings(a); show(got) != show(want) || e != api.OK {
			t.Fatalf("Strings(%+v) = %q, %d; want %q", a, got, e, want)
		}
	})
	if got, e := blockmatch.Strings(slices.Repeat(paras(""), 5000)); len(got) != 5000 || e != api.OK {
		t.Errorf("Strings = %d strings, %d", len(got), e)
	}
}

func TestP31_3Blocks(t *testing.T) {
	box := func(s string) api.Item { return table(1, row(cell(2, text(s)))) }
	x, y := strings.Repeat("x", 400)+"!"+strings.Repeat("y", 599), strings.Repeat("x", 400)+"?"+strings.Repeat("z", 599)
	for i, c := range []struct {
		a, b []api.Item
		want []match
	}{
		{nil, nil, nil}, {paras("a"), nil, nil}, {nil, paras("a"), nil}, {paras(""), paras(""), []match{{0, 0, 1000}}}, {paras("a", "b"), paras("b", "a"), []match{{1, 0, 1000}}}, {paras("", ""), paras("", "", ""), []match{{0, 0, 1000}, {1, 1, 1000}}},
		{paras("the cat", "sat", ""), paras("", "a cat", "dog", "sat"), []match{{0, 1, 666}, {1, 3, 1000}}}, {flow(text("a"), para()), flow(text("a")), []match{{0, 0, 1000}}}, {flow(text("a\n")), flow(box("a")), nil}, {flow(box("a")), flow(box("a b")), []match{{0, 0, 666}}},
		{flow(section(), text("\uFFFC")), flow(text("\x1D"), section(), samples.Anchor(api.CommentEnd, 1)), []match{{0, 1, 1000}}}, {flow(samples.Anchor(api.CommentEnd, 1)), flow(samples.Anchor(api.BookmarkEnd, 5)), []match{{0, 0, 1000}}}, {flow(samples.Anchor(api.CommentEnd, 1), para()), flow(samples.Anchor(api.CommentEnd, 1)), nil},
		{paras(x), paras(y), []match{{0, 0, 400}}}, {paras(x + "."), paras(y), nil}, {paras(x, y), paras(x+".", y), []match{{0, 0, 999}, {1, 1, 1000}}},
		{flow(text("a", api.Prop{Key: api.KeyBold, Value: 1}), note(4, text("x")), para()), flow(text("a"), note(5, text("y")), para()), []match{{0, 0, 1000}}},
	} {
		if got, e := blockmatch.Blocks(c.a, c.b); show(got) != show(c.want) || e != api.OK {
			t.Errorf("%d: Blocks = %v, %d; want %v", i, got, e, c.want)
		}
	}
	matched, partly := 0, 0
	manyFlows(3000, 6, func(_ *rand.Rand, a, b []api.Item) {
		got, e := blockmatch.Blocks(a, b)
		if want := naiveBlocks(a, b); show(got) != show(want) || e != api.OK {
			t.Fatalf("Blocks(%+v, %+v) = %v, %d; want %v", a, b, got, e, want)
		}
		for _, m := range got {
			matched++
			if m.Score < 1000 {
				partly++
			}
		}
	})
	if matched < 3000 || partly < 1000 {
		t.Errorf("%d blocks were matched, %d of them partly", matched, partly)
	}
}

// TestP31_3Errors also has flows that are contained in items of other kinds.
func TestP31_3Errors(t *testing.T) {
	full, fuller := slices.Repeat(paras("ab"), 1024), slices.Repeat(paras("ab"), 1025)
	for i, l := range [][]api.Item{
		flow(broken()), flow(text("a"), para(), broken()), flow(note(1, broken())), flow(table(1, row(cell(2)), row(cell(3), cell(4, text("a"), broken())))), flow(table(1, row(cell(2, note(3, broken()))))),
		flow(api.Item{Kind: api.Para, Flow: flow(broken())}), flow(api.Item{Kind: api.Note, Rows: []api.Row{row(cell(1, broken()))}}), append(slices.Clone(fuller), broken()),
	} {
		if got, e := blockmatch.Strings(l); got != nil || e != api.ErrUTF8 {
			t.Errorf("%d: Strings = %q, %d", i, got, e)
		}
		for k, pair := range [][2][]api.Item{{l, nil}, {nil, l}, {paras("a"), l}, {l, l}, {l, fuller}, {fuller, l}} {
			if got, e := blockmatch.Blocks(pair[0], pair[1]); got != nil || e != api.ErrUTF8 {
				t.Errorf("%d, %d: Blocks = %v, %d", i, k, got, e)
			}
		}
	}
	for i, c := range []struct {
		a, b []api.Item
		want api.Errno
	}{{full, nil, api.OK}, {paras("x"), full, api.OK}, {fuller, nil, api.ErrLimit}, {nil, fuller, api.ErrLimit}, {fuller, fuller, api.ErrLimit}, {append(slices.Clone(full), text("a")), nil, api.ErrLimit}, {flow(api.Item{Kind: api.Field, Text: "\xFF"}), nil, api.OK}} {
		if got, e := blockmatch.Blocks(c.a, c.b); len(got) != 0 || e != c.want {
			t.Errorf("%d: Blocks = %v, %d; want %d", i, got, e, c.want)
		}
	}
}

func TestP31_4RowsAndCells(t *testing.T) {
	rowsA, rowsB := []api.Row{row(cell(1, text("one")), cell(2, text("two"))), row(cell(3, text("zebra zoo")))}, []api.Row{row(cell(4)), row(cell(5, text("one"), para()), cell(6, text("two")))}
	if got, e := blockmatch.Rows(rowsA, rowsB); show(got) != show([]match{{0, 1, 941}}) || e != api.OK {
		t.Errorf("Rows = %v, %d", got, e)
	}
	if got, e := blockmatch.Rows(rowsA, []api.Row{row(cell(1, text("one\ntwo")))}); show(got) != show([]match{{0, 0, 1000}}) || e != api.OK {
		t.Errorf("Rows = %v, %d", got, e)
	}
	if got, e := blockmatch.Cells(rowsA[0].Cells, rowsB[1].Cells); show(got) != show([]match{{0, 0, 857}, {1, 1, 1000}}) || e != api.OK {
		t.Errorf("Cells = %v, %d", got, e)
	}
	if got, e := blockmatch.Rows([]api.Row{row()}, []api.Row{row(), row(cell(1))}); show(got) != show([]match{{0, 0, 1000}}) || e != api.OK {
		t.Errorf("Rows = %v, %d", got, e)
	}
	if got, e := blockmatch.Cells([]api.Cell{cell(1), cell(2, text("x"))}, []api.Cell{cell(2, text("y")), cell(9)}); show(got) != show([]match{{0, 1, 1000}}) || e != api.OK {
		t.Errorf("Cells = %v, %d", got, e)
	}
	rows, cells := 0, 0
	manyFlows(4000, 7, func(_ *rand.Rand, a, b []api.Item) {
		strings := func(l []api.Row) (kinds []int, all []string) {
			for _, r := range l {
				kinds, all = append(kinds, 0), append(all, naiveRow(r))
			}
			return kinds, all
		}
		kindsA, x := strings(rowsIn(a))
		kindsB, y := strings(rowsIn(b))
		got, e := blockmatch.Rows(rowsIn(a), rowsIn(b))
		if want := naiveMatching(kindsA, x, kindsB, y); show(got) != show(want) || e != api.OK {
			t.Fatalf("Rows of %+v and %+v = %v, %d; want %v", a, b, got, e, want)
		}
		rows += len(got)
		single := func(l []api.Cell) (kinds []int, all []string) {
			for _, c := range l {
				kinds, all = append(kinds, 0), append(all, strippedCell(c))
			}
			return kinds, all
		}
		kindsA, x = single(cellsIn(a))
		kindsB, y = single(cellsIn(b))
		got, e = blockmatch.Cells(cellsIn(a), cellsIn(b))
		if want := naiveMatching(kindsA, x, kindsB, y); show(got) != show(want) || e != api.OK {
			t.Fatalf("Cells of %+v and %+v = %v, %d; want %v", a, b, got, e, want)
		}
		cells += len(got)
	})
	if rows < 500 || cells < 500 {
		t.Errorf("%d rows and %d cells were matched", rows, cells)
	}
}

// strippedCell returns the string of a cell, which is that of a row without its last character.
func strippedCell(c api.Cell) string { return strings.TrimSuffix(naiveRow(row(c)), "\n") }

func TestP31_4Errors(t *testing.T) {
	bad := []api.Cell{cell(1), cell(2, note(3, text("a"), broken()))}
	full, fuller := make([]api.Cell, 1024), make([]api.Cell, 1025)
	badAndFuller := append(slices.Clone(fuller), bad...)
	for i, c := range []struct {
		a, b []api.Cell
		want api.Errno
	}{
		{nil, nil, api.OK}, {bad, nil, api.ErrUTF8}, {nil, bad, api.ErrUTF8}, {bad, fuller, api.ErrUTF8}, {fuller, bad, api.ErrUTF8}, {badAndFuller, nil, api.ErrUTF8}, {nil, badAndFuller, api.ErrUTF8},
		{full, nil, api.OK}, {nil, full, api.OK}, {fuller, nil, api.ErrLimit}, {nil, fuller, api.ErrLimit}, {[]api.Cell{cell(1, table(2, row(cell(3, broken()))))}, nil, api.ErrUTF8},
	} {
		if got, e := blockmatch.Cells(c.a, c.b); len(got) != 0 || e != c.want {
			t.Errorf("%d: Cells = %v, %d; want %d", i, got, e, c.want)
		}
		each := func(l []api.Cell) (rows []api.Row) {
			for _, c := range l {
				rows = append(rows, row(c))
			}
			return rows
		}
		if got, e := blockmatch.Rows(each(c.a), each(c.b)); len(got) != 0 || e != c.want {
			t.Errorf("%d: Rows = %v, %d; want %d", i, got, e, c.want)
		}
	}
	if got, e := blockmatch.Rows([]api.Row{row(fuller...)}, []api.Row{row(full...)}); e != api.OK || len(got) != 1 {
		t.Errorf("Rows = %v, %d", got, e)
	}
}

func TestP31_5Consequences(t *testing.T) {
	itself := func(count int) (all []match) {
		for i := range count {
			all = append(all, match{i, i, 1000})
		}
		return all
	}
	manyFlows(2000, 8, func(r *rand.Rand, a, b []api.Item) {
		before := show(a) + show(b)
		strings, _ := blockmatch.Strings(a)
		blocks, _ := blockmatch.Blocks(a, a)
		rows, _ := blockmatch.Rows(rowsIn(a), rowsIn(a))
		cells, _ := blockmatch.Cells(cellsIn(a), cellsIn(a))
		if show(blocks) != show(itself(len(strings))) || show(rows) != show(itself(len(rowsIn(a)))) || show(cells) != show(itself(len(cellsIn(a)))) {
			t.Fatalf("%+v with itself: %v, %v, %v", a, blocks, rows, cells)
		}
		forwards, _ := blockmatch.Blocks(a, b)
		other, _ := blockmatch.Blocks(b, a)
		if total(forwards) != total(other) {
			t.Fatalf("%+v and %+v: %v and %v", a, b, forwards, other)
		}
		x, y := cellsIn(a), cellsIn(b)
		forwards, _ = blockmatch.Cells(x, y)
		slices.Reverse(x)
		slices.Reverse(y)
		backwards, _ := blockmatch.Cells(x, y)
		if total(forwards) != total(backwards) || show(a)+show(b) != before {
			t.Fatalf("%+v and %+v: %v and %v", x, y, forwards, backwards)
		}
	})
}

func TestP31_5NewMemory(t *testing.T) {
	a, b := paras("the cat", "sat"), paras("a cat", "sat")
	for range 2 {
		l, _ := blockmatch.Blocks(a, b)
		names, _ := blockmatch.Strings(a)
		x, y, _ := blockmatch.Tokens("a b", "b a")
		scores := [][]int{{500}}
		best, _ := blockmatch.Best(scores)
		if show(l) != "[{A:0 B:0 Score:666} {A:1 B:1 Score:1000}]" || show(names) != "[the cat sat]" || show(x)+show(y) != "[{Key:1 Weight:1} {Key:2 Weight:1} {Key:3 Weight:1}][{Key:3 Weight:1} {Key:2 Weight:1} {Key:1 Weight:1}]" || show(best) != "[{A:0 B:0 Score:500}]" {
			t.Fatalf("%v, %q, %v, %v, %v", l, names, x, y, best)
		}
		l[0], names[0], x[0], y[0], best[0] = match{}, "", token{}, token{}, match{}
		if show(y[1:]) != "[{Key:2 Weight:1} {Key:1 Weight:1}]" || show(scores) != "[[500]]" {
			t.Errorf("memory is shared")
		}
	}
}

// TestP31_5Large matches as many blocks as possible: those of the second flow have one word less, in the same order.
func TestP31_5Large(t *testing.T) {
	r := rand.New(rand.NewPCG(31, 9))
	var a, b []string
	for range blockmatch.MaxItems {
		one := make([]string, 5)
		for i := range one {
			one[i] = string([]rune{rune('a' + r.IntN(26)), rune('a' + r.IntN(26)), rune('a' + r.IntN(26))})
		}
		a, b = append(a, strings.Join(one, " ")), append(b, strings.Join(one[1:], " "))
	}
	got, e := blockmatch.Blocks(paras(a...), paras(b...))
	if e != api.OK || len(got) != len(a) {
		t.Fatalf("Blocks = %d matches, %d", len(got), e)
	}
	for i, m := range got {
		if m != (match{i, i, 882}) {
			t.Fatalf("%d: %v", i, m)
		}
	}
	scores := square(blockmatch.MaxItems, blockmatch.MaxItems, 1000)
	if best, e := blockmatch.Best(scores); e != api.OK || total(best) != 1000*blockmatch.MaxItems {
		t.Errorf("Best has the total %d, %d", total(best), e)
	}
}
