package position_test

import (
	"fmt"
	"math"
	"math/rand/v2"
	"slices"
	"strings"
	"testing"

	"obelus/api"
	"obelus/document"
	"obelus/grapheme"
	"obelus/position"
	"obelus/run"
	"obelus/samples"
	"obelus/segment"
)

var (
	text, para, section, note, table = samples.Text, samples.Para, samples.Section, samples.Note, samples.Table
	row, cell, flow, doc             = samples.Row, samples.Cell, samples.Flow, samples.Doc
)

func pos(flow, at int) api.Pos          { return api.Pos{Flow: flow, At: at} }
func span(flow, from, to int) api.Range { return api.Range{Flow: flow, From: from, To: to} }

// show returns a string that is equal for equal values, where nil and empty slices are equal.
func show(v any) string { return fmt.Sprintf("%+v", v) }

// chapter is the first example of the chapter.
func chapter() api.Document { return doc(text("ab"), note(4, text("x")), para()) }

// inner yields the flows in a unit.
func inner(u api.Item) []api.Cell {
	switch u.Kind {
	case api.Note:
		return []api.Cell{{Id: u.Id, Flow: u.Flow}}
	case api.Table:
		var cells []api.Cell
		for _, r := range u.Rows {
			cells = append(cells, r.Cells...)
		}
		return cells
	}
	return nil
}

// naiveOrder returns the positions of a flow and of the flows in it, in document order.
func naiveOrder(id int, l []api.Item) []api.Pos {
	units := samples.Units(l)
	var all []api.Pos
	for at, u := range units {
		all = append(all, pos(id, at))
		for _, c := range inner(u) {
			all = append(all, naiveOrder(c.Id, c.Flow)...)
		}
	}
	return append(all, pos(id, len(units)))
}

// naivePaths notes the path of each flow.
func naivePaths(id int, l []api.Item, path []api.Pos, paths map[int][]api.Pos) {
	paths[id] = path
	for at, u := range samples.Units(l) {
		for _, c := range inner(u) {
			naivePaths(c.Id, c.Flow, append(slices.Clone(path), pos(id, at)), paths)
		}
	}
}

// naiveBorder reports whether an offset of a flow is a border by a step.
func naiveBorder(l []api.Item, at, step int) bool {
	units := samples.Units(l)
	if at == 0 || at == len(units) {
		return true
	}
	switch step {
	case position.Cluster:
		is, _ := grapheme.IsBoundary(run.Text(l), at)
		return is
	case position.Word:
		token, _ := segment.At(run.Text(l), at)
		return token.From == at && token.Kind != segment.Space
	case position.Paragraph:
		return slices.Contains([]int{api.Para, api.Table, api.Section}, units[at-1].Kind)
	}
	return true
}

// lively makes a flow of the body with words, clusters of several texts, and items that end paragraphs.
func lively(r *rand.Rand) []api.Item {
	bold := api.Prop{Key: api.KeyBold, Value: 1}
	alphabet := flow(text("e"), text("\u0301", bold), text("\r"), para(), text("one two"), text("  "), text("3"), text(".5", bold), text("\U0001F1E6"), text("\U0001F468\u200D", bold),
		samples.Break(api.Tab), samples.Break(api.LineBreak), samples.Field("page"), samples.Anchor(api.CommentStart, 1), section(), text("\n"), text("\u4E00"))
	var l []api.Item
	for i := range r.IntN(12) {
		switch k := r.IntN(len(alphabet) + 2); {
		case k < len(alphabet):
			l = append(l, alphabet[k])
		case k == len(alphabet):
			l = append(l, note(100+i, text("in"), para()))
		default:
			l = append(l, table(200+2*i, row(cell(201+2*i, text("at")))))
		}
	}
	return l
}

// many calls a function for many documents, with and without marks.
func many(count int, seed uint64, f func(r *rand.Rand, d api.Document)) {
	r := rand.New(rand.NewPCG(15, seed))
	for i := range count {
		d := samples.Document(r.IntN)
		if i%2 == 0 {
			d.Flow = lively(r)
		}
		f(r, d)
	}
}

// flows returns the flows of a document by their ids.
func flows(d api.Document) map[int][]api.Item {
	all := make(map[int][]api.Item)
	for _, id := range document.Flows(d) {
		all[id], _ = document.Flow(d, id)
	}
	return all
}

// around returns offsets in and around a flow, the least and the greatest number among them.
func around(l []api.Item) []int {
	all := []int{math.MinInt, -1}
	for at := range len(samples.Units(l)) + 3 {
		all = append(all, at)
	}
	return append(all, math.MaxInt)
}

// noFlows returns numbers that are not the id of a flow.
func noFlows(d api.Document) []int {
	none := slices.DeleteFunc(samples.Numbers(), func(id int) bool { return slices.Contains(document.Flows(d), id) })
	return append(none, document.Tables(d)...)
}

func TestP1AllArguments(t *testing.T) {
	r := rand.New(rand.NewPCG(15, 1))
	strange := []api.Document{{}, doc(text("\xFF"), para()), doc(text("\xC3"), text("\xA9"), note(0, note(0))), doc(note(1, table(2, row(cell(1, note(2))), row())), table(1))}
	for range 60 {
		strange = append(strange, samples.Wrong(r.IntN))
	}
	numbers := append(samples.Numbers(), 4002, 8003)
	for _, d := range strange {
		position.Count(d)
		for _, a := range numbers {
			if p, e := position.Of(d, a); e != api.OK && p != (api.Pos{}) {
				t.Errorf("Of(%+v, %d) = %+v, %d", d, a, p, e)
			}
			if path, e := position.Path(d, a); e != api.OK && len(path) > 0 {
				t.Errorf("Path(%+v, %d) = %+v, %d", d, a, path, e)
			}
			for _, b := range numbers {
				p := pos(a, b)
				position.Check(d, p)
				if i, e := position.Index(d, p); e != api.OK && i != 0 {
					t.Errorf("Index(%+v, %+v) = %d, %d", d, p, i, e)
				}
				if i, e := position.Compare(d, p, pos(0, 0)); e != api.OK && i != 0 {
					t.Errorf("Compare(%+v, %+v) = %d, %d", d, p, i, e)
				}
				for step := -1; step < 6; step++ {
					q, e := position.Next(d, p, step)
					s, f := position.Prev(d, p, step)
					if e != api.OK && q != (api.Pos{}) || f != api.OK && s != (api.Pos{}) {
						t.Errorf("around %+v in %+v: %+v, %d; %+v, %d", p, d, q, e, s, f)
					}
					x, g := position.Expand(d, span(a, b, b+1), step)
					if g != api.OK && x != (api.Range{}) {
						t.Errorf("Expand around %+v in %+v: %+v, %d", p, d, x, g)
					}
				}
				q, e := position.Follow(d, p)
				s, f := position.Precede(d, p)
				if e != api.OK && q != (api.Pos{}) || f != api.OK && s != (api.Pos{}) {
					t.Errorf("around %+v in %+v: %+v, %d; %+v, %d", p, d, q, e, s, f)
				}
				if s, e := position.Text(d, span(0, a, b)); e != api.OK && s != "" {
					t.Errorf("Text from %d to %d of %+v = %q, %d", a, b, d, s, e)
				}
				if at, ok := position.Lift(d, p, a); !ok && at != 0 {
					t.Errorf("Lift(%+v, %+v) = %d", d, p, at)
				}
			}
		}
	}
}

// TestP1Deep nests flows as deeply as the document permits.
func TestP1Deep(t *testing.T) {
	deep := 1 << 16
	tables, notes := samples.Deep(deep)
	for i, l := range [][]api.Item{tables, notes} {
		d := doc(l...)
		innermost := []int{2, 1}[i]
		if n := position.Count(d); n != 4*deep+1 {
			t.Errorf("%d: %d positions", i, n)
		}
		if path, e := position.Path(d, innermost); len(path) != deep || e != api.OK || path[0] != pos(0, 1) {
			t.Errorf("%d: a path of %d, %d", i, len(path), e)
		}
		if at, ok := position.Lift(d, pos(innermost, 0), 0); at != 1 || !ok {
			t.Errorf("%d: Lift = %d, %v", i, at, ok)
		}
		p, e := position.Of(d, 2*deep)
		q, f := position.Follow(d, p)
		if p != pos(innermost, 0) || e != api.OK || f != api.OK || q.At != 2 {
			t.Errorf("%d: %+v, %d is before %+v, %d", i, p, e, q, f)
		}
		if order, e := position.Compare(d, p, q); order != -1 || e != api.OK {
			t.Errorf("%d: Compare = %d, %d", i, order, e)
		}
	}
}

func TestP15_1Errors(t *testing.T) {
	d := doc(text("ab"), table(3, row(cell(5, text("\u00e9\U0001F600")), cell(4))), para())
	for _, c := range []struct {
		flow, from, to int
		want           api.Errno
	}{
		{0, 0, 0, api.OK}, {0, 0, 4, api.OK}, {0, 4, 4, api.OK}, {0, 4, 5, api.ErrRange}, {0, 5, 5, api.ErrRange}, {0, 3, 2, api.ErrRange}, {0, -1, 2, api.ErrRange}, {0, -2, -1, api.ErrRange}, {0, math.MinInt, math.MaxInt, api.ErrRange},
		{5, 0, 2, api.OK}, {5, 1, 3, api.ErrRange}, {4, 0, 0, api.OK}, {4, 0, 1, api.ErrRange}, {4, 1, 0, api.ErrRange},
		{3, 0, 0, api.ErrNotFound}, {1, 0, 0, api.ErrNotFound}, {-1, 0, 0, api.ErrNotFound}, {6, 2, 1, api.ErrNotFound},
	} {
		if e := position.CheckRange(d, span(c.flow, c.from, c.to)); e != c.want {
			t.Errorf("CheckRange(%+v) = %d", c, e)
		}
		if e := position.Check(d, pos(c.flow, c.from)); c.from == c.to && e != c.want {
			t.Errorf("Check(%+v) = %d", c, e)
		}
	}
}

func TestP15_1ErrorsOfMany(t *testing.T) {
	many(200, 2, func(r *rand.Rand, d api.Document) {
		for id, l := range flows(d) {
			length := len(samples.Units(l))
			for _, from := range around(l) {
				want := api.OK
				if from < 0 || from > length {
					want = api.ErrRange
				}
				if e := position.Check(d, pos(id, from)); e != want {
					t.Fatalf("Check(%+v, %d in %d) = %d", d, from, id, e)
				}
				for _, to := range around(l) {
					want := api.OK
					if from < 0 || from > to || to > length {
						want = api.ErrRange
					}
					if e := position.CheckRange(d, span(id, from, to)); e != want {
						t.Fatalf("CheckRange(%+v, %d to %d in %d) = %d", d, from, to, id, e)
					}
				}
			}
		}
		for _, id := range noFlows(d) {
			if e, f := position.Check(d, pos(id, 0)), position.CheckRange(d, span(id, 1, 0)); e != api.ErrNotFound || f != api.ErrNotFound {
				t.Fatalf("%+v has a flow %d: %d, %d", d, id, e, f)
			}
		}
	})
}

func TestP15_2Example(t *testing.T) {
	d := chapter()
	want := []api.Pos{pos(0, 0), pos(0, 1), pos(0, 2), pos(4, 0), pos(4, 1), pos(0, 3), pos(0, 4)}
	if n := position.Count(d); n != len(want) {
		t.Errorf("Count = %d", n)
	}
	for i, p := range want {
		if q, e := position.Of(d, i); q != p || e != api.OK {
			t.Errorf("Of(%d) = %+v, %d", i, q, e)
		}
		if j, e := position.Index(d, p); j != i || e != api.OK {
			t.Errorf("Index(%+v) = %d, %d", p, j, e)
		}
	}
	if n := position.Count(api.Document{}); n != 1 {
		t.Errorf("the empty document has %d positions", n)
	}
	if p, e := position.Of(api.Document{}, 0); p != (api.Pos{}) || e != api.OK {
		t.Errorf("the first position is %+v, %d", p, e)
	}
}

func TestP15_2Order(t *testing.T) {
	many(600, 3, func(r *rand.Rand, d api.Document) {
		want := naiveOrder(0, d.Flow)
		if n := position.Count(d); n != len(want) {
			t.Fatalf("Count(%+v) = %d; want %d", d, n, len(want))
		}
		for i, p := range want {
			if q, e := position.Of(d, i); q != p || e != api.OK {
				t.Fatalf("Of(%+v, %d) = %+v, %d; want %+v", d, i, q, e, p)
			}
			if j, e := position.Index(d, p); j != i || e != api.OK {
				t.Fatalf("Index(%+v, %+v) = %d, %d; want %d", d, p, j, e, i)
			}
		}
		for _, i := range []int{math.MinInt, -1, len(want), len(want) + 1, math.MaxInt} {
			if p, e := position.Of(d, i); p != (api.Pos{}) || e != api.ErrRange {
				t.Fatalf("Of(%+v, %d) = %+v, %d", d, i, p, e)
			}
		}
		for _, p := range []api.Pos{pos(0, -1), pos(0, len(samples.Units(d.Flow))+1), pos(-1, 0), pos(-1, -1)} {
			if i, e := position.Index(d, p); i != 0 || e != position.Check(d, p) || e == api.OK {
				t.Fatalf("Index(%+v, %+v) = %d, %d", d, p, i, e)
			}
		}
	})
}

func TestP15_3CompareFollowPrecede(t *testing.T) {
	many(150, 4, func(r *rand.Rand, d api.Document) {
		all := naiveOrder(0, d.Flow)
		for i, p := range all {
			for j, q := range all {
				want := 0
				if i < j {
					want = -1
				} else if i > j {
					want = 1
				}
				if got, e := position.Compare(d, p, q); got != want || e != api.OK {
					t.Fatalf("Compare(%+v, %+v, %+v) = %d, %d", d, p, q, got, e)
				}
			}
			next, e := position.Follow(d, p)
			if i+1 < len(all) && (next != all[i+1] || e != api.OK) || i+1 == len(all) && (next != api.Pos{} || e != api.ErrRange) {
				t.Fatalf("Follow(%+v, %+v) = %+v, %d", d, p, next, e)
			}
			previous, e := position.Precede(d, p)
			if i > 0 && (previous != all[i-1] || e != api.OK) || i == 0 && (previous != api.Pos{} || e != api.ErrRange) {
				t.Fatalf("Precede(%+v, %+v) = %+v, %d", d, p, previous, e)
			}
		}
	})
}

func TestP15_3Errors(t *testing.T) {
	d := chapter()
	good, absent, over := pos(4, 1), pos(5, 9), pos(4, 2)
	for i, c := range []struct {
		p, q api.Pos
		want api.Errno
	}{{absent, over, api.ErrNotFound}, {over, absent, api.ErrRange}, {good, absent, api.ErrNotFound}, {good, over, api.ErrRange}, {over, good, api.ErrRange}, {absent, good, api.ErrNotFound}} {
		if got, e := position.Compare(d, c.p, c.q); got != 0 || e != c.want {
			t.Errorf("%d: Compare = %d, %d", i, got, e)
		}
	}
	for _, c := range []struct {
		p    api.Pos
		want api.Errno
	}{{absent, api.ErrNotFound}, {over, api.ErrRange}, {pos(0, -1), api.ErrRange}} {
		p, e := position.Follow(d, c.p)
		q, f := position.Precede(d, c.p)
		if p != (api.Pos{}) || q != (api.Pos{}) || e != c.want || f != c.want {
			t.Errorf("around %+v: %+v, %d and %+v, %d", c.p, p, e, q, f)
		}
	}
}

func TestP15_4Examples(t *testing.T) {
	words := flow(text("one two"), para(), text("x"))
	accents := flow(text("e"), text("\u0301", api.Prop{Key: api.KeyBold, Value: 1}), text("\r"), para(), text("\n"))
	blocks := flow(text("a\n"), para(), samples.Break(api.PageBreak), section(), note(8, para()), table(1, row(cell(2, para()))), text("b"))
	for i, c := range []struct {
		l    []api.Item
		step int
		want []int // all borders
	}{
		{words, position.Word, []int{0, 4, 7, 8, 9}}, {words, position.Paragraph, []int{0, 8, 9}}, {words, position.Unit, []int{0, 1, 2, 3, 4, 5, 6, 7, 8, 9}}, {words, position.Cluster, []int{0, 1, 2, 3, 4, 5, 6, 7, 8, 9}},
		{accents, position.Cluster, []int{0, 2, 4, 5}}, {accents, position.Unit, []int{0, 1, 2, 3, 4, 5}}, {accents, position.Word, []int{0, 2, 4, 5}}, {accents, position.Paragraph, []int{0, 4, 5}},
		{blocks, position.Paragraph, []int{0, 3, 5, 7, 8}}, {blocks, position.Word, []int{0, 1, 2, 3, 4, 5, 6, 7, 8}},
		{flow(text("  a  ")), position.Word, []int{0, 2, 5}}, {flow(text("  ")), position.Word, []int{0, 2}}, {flow(text("3"), text(".5", api.Prop{Key: api.KeyBold, Value: 1})), position.Word, []int{0, 3}},
		{nil, position.Unit, []int{0}}, {nil, position.Cluster, []int{0}}, {nil, position.Word, []int{0}}, {nil, position.Paragraph, []int{0}}, {flow(para()), position.Paragraph, []int{0, 1}},
	} {
		d := doc(c.l...)
		var forth, back []int
		for p, e := pos(0, 0), api.OK; e == api.OK; p, e = position.Next(d, p, c.step) {
			forth = append(forth, p.At)
		}
		for p, e := pos(0, len(samples.Units(c.l))), api.OK; e == api.OK; p, e = position.Prev(d, p, c.step) {
			back = append(back, p.At)
		}
		slices.Reverse(back)
		if !slices.Equal(forth, c.want) || !slices.Equal(back, c.want) {
			t.Errorf("%d: forth %v, back %v; want %v", i, forth, back, c.want)
		}
	}
}

func TestP15_4Steps(t *testing.T) {
	if steps := []int{position.Unit, position.Cluster, position.Word, position.Paragraph}; !slices.Equal(steps, []int{1, 2, 3, 4}) {
		t.Errorf("the steps are %v", steps)
	}
}

func TestP15_4NextAndPrev(t *testing.T) {
	many(600, 5, func(r *rand.Rand, d api.Document) {
		for id, l := range flows(d) {
			length := len(samples.Units(l))
			for step := position.Unit; step <= position.Paragraph; step++ {
				for at := range length + 1 {
					next, previous := at+1, at-1
					for next <= length && !naiveBorder(l, next, step) {
						next++
					}
					for previous >= 0 && !naiveBorder(l, previous, step) {
						previous--
					}
					p, e := position.Next(d, pos(id, at), step)
					if at < length && (p != pos(id, next) || e != api.OK) || at == length && (p != api.Pos{} || e != api.ErrRange) {
						t.Fatalf("Next(%+v, %d in %d, %d) = %+v, %d; want %d", d, at, id, step, p, e, next)
					}
					p, e = position.Prev(d, pos(id, at), step)
					if at > 0 && (p != pos(id, previous) || e != api.OK) || at == 0 && (p != api.Pos{} || e != api.ErrRange) {
						t.Fatalf("Prev(%+v, %d in %d, %d) = %+v, %d; want %d", d, at, id, step, p, e, previous)
					}
				}
			}
		}
	})
}

func TestP15_4Errors(t *testing.T) {
	d := chapter()
	for i, c := range []struct {
		p          api.Pos
		step       int
		next, prev api.Errno
	}{
		{pos(5, -1), 0, api.ErrNotFound, api.ErrNotFound}, {pos(4, 2), 5, api.ErrRange, api.ErrRange}, {pos(0, -1), position.Word, api.ErrRange, api.ErrRange},
		{pos(4, 0), 0, api.ErrKind, api.ErrKind}, {pos(4, 1), 5, api.ErrKind, api.ErrKind}, {pos(0, 2), -1, api.ErrKind, api.ErrKind}, {pos(0, 2), math.MaxInt, api.ErrKind, api.ErrKind},
		{pos(4, 0), position.Unit, api.OK, api.ErrRange}, {pos(4, 1), position.Paragraph, api.ErrRange, api.OK},
	} {
		p, e := position.Next(d, c.p, c.step)
		q, f := position.Prev(d, c.p, c.step)
		if e != c.next || f != c.prev || e != api.OK && p != (api.Pos{}) || f != api.OK && q != (api.Pos{}) {
			t.Errorf("%d: %+v, %d and %+v, %d", i, p, e, q, f)
		}
	}
}

func TestP15_5ExpandAndText(t *testing.T) {
	many(300, 6, func(r *rand.Rand, d api.Document) {
		for id, l := range flows(d) {
			points := []rune(run.Text(l))
			for from := range len(points) + 1 {
				for to := from; to <= len(points); to++ {
					if s, e := position.Text(d, span(id, from, to)); s != string(points[from:to]) || e != api.OK {
						t.Fatalf("Text(%+v, %d to %d in %d) = %q, %d", d, from, to, id, s, e)
					}
				}
				to := from + r.IntN(len(points)+1-from)
				for step := position.Unit; step <= position.Paragraph; step++ {
					want := span(id, from, to)
					for !naiveBorder(l, want.From, step) {
						want.From--
					}
					for !naiveBorder(l, want.To, step) {
						want.To++
					}
					if got, e := position.Expand(d, span(id, from, to), step); got != want || e != api.OK {
						t.Fatalf("Expand(%+v, %d to %d in %d, %d) = %+v, %d; want %+v", d, from, to, id, step, got, e, want)
					}
				}
			}
		}
	})
}

func TestP15_5Examples(t *testing.T) {
	d := doc(text("one two"), para(), table(1, row(cell(2, text("x")))))
	for i, c := range []struct {
		from, to, step int
		want           api.Range
	}{
		{5, 5, position.Word, span(0, 4, 7)}, {4, 4, position.Word, span(0, 4, 4)}, {3, 3, position.Word, span(0, 0, 4)}, {2, 5, position.Word, span(0, 0, 7)}, {2, 5, position.Paragraph, span(0, 0, 8)}, {0, 9, position.Paragraph, span(0, 0, 9)}, {8, 9, position.Paragraph, span(0, 8, 9)}, {2, 3, position.Unit, span(0, 2, 3)},
	} {
		if got, e := position.Expand(d, span(0, c.from, c.to), c.step); got != c.want || e != api.OK {
			t.Errorf("%d: Expand = %+v, %d", i, got, e)
		}
	}
	if s, e := position.Text(d, span(0, 4, 9)); s != "two\n\uFFFC" || e != api.OK {
		t.Errorf("Text = %q, %d", s, e)
	}
	for i, c := range []struct {
		r    api.Range
		step int
		want api.Errno
	}{{span(1, 5, 4), 0, api.ErrNotFound}, {span(2, 0, 2), 0, api.ErrRange}, {span(2, 1, 0), 1, api.ErrRange}, {span(2, -1, 0), 1, api.ErrRange}, {span(2, 0, 1), 0, api.ErrKind}, {span(2, 0, 1), 5, api.ErrKind}} {
		if got, e := position.Expand(d, c.r, c.step); got != (api.Range{}) || e != c.want {
			t.Errorf("%d: Expand = %+v, %d", i, got, e)
		}
		want := c.want
		if want == api.ErrKind {
			continue
		}
		if s, e := position.Text(d, c.r); s != "" || e != want {
			t.Errorf("%d: Text = %q, %d", i, s, e)
		}
	}
}

func TestP15_6PathAndLift(t *testing.T) {
	if path, e := position.Path(chapter(), 4); !slices.Equal(path, []api.Pos{pos(0, 2)}) || e != api.OK {
		t.Errorf("the chapter's path is %+v, %d", path, e)
	}
	if at, ok := position.Lift(chapter(), pos(4, 1), 0); at != 2 || !ok {
		t.Errorf("the chapter's unit is %d, %v", at, ok)
	}
	longest := 0
	many(400, 7, func(r *rand.Rand, d api.Document) {
		paths := make(map[int][]api.Pos)
		naivePaths(0, d.Flow, nil, paths)
		for id, want := range paths {
			longest = max(longest, len(want))
			if path, e := position.Path(d, id); !slices.Equal(path, want) || e != api.OK {
				t.Fatalf("Path(%+v, %d) = %+v, %d; want %+v", d, id, path, e, want)
			}
		}
		for _, id := range noFlows(d) {
			if path, e := position.Path(d, id); len(path) > 0 || e != api.ErrNotFound {
				t.Fatalf("Path(%+v, %d) = %+v, %d", d, id, path, e)
			}
			if at, ok := position.Lift(d, pos(0, 0), id); at != 0 || ok {
				t.Fatalf("Lift(%+v, to %d) = %d, %v", d, id, at, ok)
			}
			if at, ok := position.Lift(d, pos(id, 0), id); at != 0 || ok {
				t.Fatalf("Lift(%+v, to %d) = %d, %v", d, id, at, ok)
			}
		}
		for _, p := range naiveOrder(0, d.Flow) {
			for id := range paths {
				want, is := p.At, id == p.Flow
				for _, q := range paths[p.Flow] {
					if q.Flow == id {
						want, is = q.At, true
					}
				}
				if !is {
					want = 0
				}
				if at, ok := position.Lift(d, p, id); at != want || ok != is {
					t.Fatalf("Lift(%+v, %+v, %d) = %d, %v; want %d", d, p, id, at, ok, want)
				}
			}
		}
		for id, l := range flows(d) {
			for _, at := range []int{-1, len(samples.Units(l)) + 1} {
				if got, ok := position.Lift(d, pos(id, at), 0); got != 0 || ok {
					t.Fatalf("Lift(%+v, %d in %d) = %d, %v", d, at, id, got, ok)
				}
			}
		}
	})
	if longest < 3 {
		t.Errorf("the longest path has %d positions", longest)
	}
}

func TestP15_7Ranges(t *testing.T) {
	units := func(r api.Range) []int {
		var l []int
		for i := r.From; i < r.To; i++ {
			l = append(l, i)
		}
		return l
	}
	var all []api.Range
	for id := range 2 {
		for from := -2; from < 4; from++ {
			for to := -2; to < 4; to++ {
				all = append(all, span(id, from, to))
			}
		}
	}
	for _, a := range all {
		for _, b := range all {
			common := slices.DeleteFunc(units(a), func(i int) bool { return a.Flow != b.Flow || !slices.Contains(units(b), i) })
			got, ok := position.Intersect(a, b)
			if ok != (len(common) > 0) || !slices.Equal(units(got), common) || ok && got.Flow != a.Flow || !ok && got != (api.Range{}) {
				t.Errorf("Intersect(%+v, %+v) = %+v, %v", a, b, got, ok)
			}
			want := a.Flow == b.Flow && a.From <= b.From && b.From <= b.To && b.To <= a.To
			if is := position.Contains(a, b); is != want {
				t.Errorf("Contains(%+v, %+v) = %v", a, b, is)
			}
		}
	}
	wide := span(9, math.MinInt, math.MaxInt)
	if got, ok := position.Intersect(wide, span(9, 1<<62, math.MaxInt)); got != span(9, 1<<62, math.MaxInt) || !ok {
		t.Errorf("Intersect = %+v, %v", got, ok)
	}
	if !position.Contains(wide, wide) || position.Contains(wide, span(9, 1, 0)) || position.Contains(wide, span(8, 0, 1)) {
		t.Error("Contains is wrong")
	}
}

func TestP15_8Consequences(t *testing.T) {
	many(60, 8, func(r *rand.Rand, d api.Document) {
		before := show(d)
		for i := range position.Count(d) {
			p, _ := position.Of(d, i)
			if j, e := position.Index(d, p); i != j || e != api.OK {
				t.Fatalf("Index of %+v in %+v is %d", p, d, j)
			}
			if q, e := position.Follow(d, p); e == api.OK {
				if back, e := position.Precede(d, q); back != p || e != api.OK {
					t.Fatalf("before %+v in %+v is %+v", q, d, back)
				}
			}
			for step := position.Unit; step <= position.Paragraph; step++ {
				l, _ := document.Flow(d, p.Flow)
				once, e := position.Expand(d, span(p.Flow, p.At, p.At+r.IntN(len(samples.Units(l))+1-p.At)), step)
				twice, f := position.Expand(d, once, step)
				if once != twice || e != api.OK || f != api.OK {
					t.Fatalf("in %+v: %+v, %d and %+v, %d", d, once, e, twice, f)
				}
				if before, e := position.Next(d, p, step); e == api.OK && naiveBorder(l, p.At, step) {
					if back, e := position.Prev(d, before, step); back != p || e != api.OK {
						t.Fatalf("in %+v: from %+v to %+v and back to %+v", d, p, before, back)
					}
				}
			}
			position.Path(d, p.Flow)
			position.Lift(d, p, 0)
		}
		if show(d) != before {
			t.Fatalf("%s was changed to %+v", before, d)
		}
	})
}

// TestP15_8Large moves through a document of the greatest size.
func TestP15_8Large(t *testing.T) {
	d := doc(text(strings.Repeat("word ", api.MaxUnits/5)), para())
	last := pos(0, len(samples.Units(d.Flow)))
	steps := 0
	for p, e := pos(0, 0), api.OK; e == api.OK && steps < 100; p, e = position.Next(d, p, position.Word) {
		steps++
	}
	i, e := position.Index(d, last)
	if steps != 100 || i != last.At || e != api.OK {
		t.Errorf("%d steps, index %d, %d", steps, i, e)
	}
}
