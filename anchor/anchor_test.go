package anchor_test

import (
	"fmt"
	"math"
	"math/rand/v2"
	"slices"
	"strings"
	"testing"

	"obelus/anchor"
	"obelus/api"
	"obelus/document"
	"obelus/edit"
	"obelus/run"
	"obelus/samples"
)

var (
	text, para, note, table = samples.Text, samples.Para, samples.Note, samples.Table
	row, cell, flow, doc    = samples.Row, samples.Cell, samples.Flow, samples.Doc
	start                   = samples.Start
)

func end(id int) api.Item               { return samples.Anchor(api.BookmarkEnd, id) }
func commentStart(id int) api.Item      { return samples.Anchor(api.CommentStart, id) }
func commentEnd(id int) api.Item        { return samples.Anchor(api.CommentEnd, id) }
func pos(flow, at int) api.Pos          { return api.Pos{Flow: flow, At: at} }
func span(flow, from, to int) api.Range { return api.Range{Flow: flow, From: from, To: to} }
func named(id int, name string, from, to api.Pos) anchor.Span {
	return anchor.Span{Id: id, Name: name, From: from, To: to}
}

// comments returns comments, each with its index plus 1 as its id, that reply to some others.
func comments(parents ...int) []api.Comment {
	var l []api.Comment
	for i, parent := range parents {
		l = append(l, api.Comment{Id: i + 1, Parent: parent, Author: "a"})
	}
	return l
}

// show returns a string that is equal for equal values, where nil and empty slices are equal.
func show(v any) string { return fmt.Sprintf("%+v", v) }

// naiveList returns the anchors of a flow and of the flows in it.
func naiveList(id int, l []api.Item) []anchor.Anchor {
	var all []anchor.Anchor
	for at, u := range samples.Units(l) {
		switch u.Kind {
		case api.Anchor:
			all = append(all, anchor.Anchor{Code: u.Code, Id: u.Id, Name: u.Text, At: pos(id, at)})
		case api.Note:
			all = append(all, naiveList(u.Id, u.Flow)...)
		case api.Table:
			for _, r := range u.Rows {
				for _, c := range r.Cells {
					all = append(all, naiveList(c.Id, c.Flow)...)
				}
			}
		}
	}
	return all
}

// naiveFirst returns the index of the first anchor with a code and an id, or -1.
func naiveFirst(l []anchor.Anchor, code, id int) int {
	return slices.IndexFunc(l, func(a anchor.Anchor) bool { return a.Code == code && a.Id == id })
}

// naiveSpans returns the ranges of bookmarks or comments.
func naiveSpans(d api.Document, startCode, endCode int) []anchor.Span {
	l := naiveList(0, d.Flow)
	var all []anchor.Span
	for i, a := range l {
		if a.Code != startCode || naiveFirst(l, startCode, a.Id) != i {
			continue
		}
		s := named(a.Id, a.Name, pos(a.At.Flow, a.At.At+1), pos(a.At.Flow, a.At.At+1))
		if j := naiveFirst(l, endCode, a.Id); j >= 0 && l[j].At.Flow == a.At.Flow && l[j].At.At > a.At.At {
			s.To = l[j].At
		}
		all = append(all, s)
	}
	return all
}

// naiveProblem returns the first problem of an anchor, or 0.
func naiveProblem(d api.Document, l []anchor.Anchor, index int) int {
	a := l[index]
	isStart := a.Code == api.BookmarkStart || a.Code == api.CommentStart
	var partner *anchor.Anchor
	if i := naiveFirst(l, map[int]int{1: 2, 2: 1, 3: 4, 4: 3}[a.Code], a.Id); i >= 0 {
		partner = &l[i]
	}
	sameName := false
	for i, other := range l[:index] {
		if other.Code == api.BookmarkStart && naiveFirst(l, api.BookmarkStart, other.Id) == i && other.Name == a.Name && other.Id != a.Id {
			sameName = true
		}
	}
	known := slices.ContainsFunc(d.Settings.Comments, func(c api.Comment) bool { return c.Id == a.Id })
	for _, c := range []struct {
		applies bool
		code    int
	}{
		{naiveFirst(l, a.Code, a.Id) != index, anchor.Repeated},
		{!isStart && partner == nil, anchor.NoStart},
		{a.Code == api.BookmarkStart && sameName, anchor.SameName},
		{isStart && partner == nil, anchor.NoEnd},
		{isStart && partner != nil && partner.At.Flow != a.At.Flow, anchor.OtherFlow},
		{isStart && partner != nil && partner.At.Flow == a.At.Flow && partner.At.At < a.At.At, anchor.Reversed},
		{a.Code == api.CommentStart && !known, anchor.NoComment},
	} {
		if c.applies {
			return c.code
		}
	}
	return 0
}

// scatter puts anchors at places of a document.
func scatter(r *rand.Rand, d api.Document, count int) api.Document {
	names := []string{"a", "b", "Mark", "x-1"}
	for range count {
		ids := document.Flows(d)
		id := ids[r.IntN(len(ids))]
		if r.IntN(2) == 0 {
			id = 0
		}
		l, _ := document.Flow(d, id)
		one := samples.Anchor(1+r.IntN(4), 1+r.IntN(4))
		if one.Code == api.BookmarkStart {
			one.Text = names[r.IntN(len(names))]
		}
		at := r.IntN(len(samples.Units(l)) + 1)
		l, _ = run.Replace(l, at, at, flow(one))
		d, _ = document.SetFlow(d, id, l)
	}
	return d
}

// many calls a function for many documents with anchors.
func many(count int, seed uint64, f func(r *rand.Rand, d api.Document)) {
	r := rand.New(rand.NewPCG(16, seed))
	for i := range count {
		d := samples.Document(r.IntN)
		if i%2 == 0 {
			d = samples.Plain(r.IntN)
		}
		f(r, scatter(r, d, r.IntN(12)))
	}
}

// places returns all positions of a document.
func places(d api.Document) []api.Pos {
	var all []api.Pos
	for _, id := range document.Flows(d) {
		l, _ := document.Flow(d, id)
		for at := range len(samples.Units(l)) + 1 {
			all = append(all, pos(id, at))
		}
	}
	return all
}

func TestP1AllArguments(t *testing.T) {
	r := rand.New(rand.NewPCG(16, 1))
	strange := []api.Document{{}, doc(text("\xFF"), start(1, ""), text("\xC3"), end(1)), doc(samples.Anchor(0, 0), samples.Anchor(9, -1), samples.Anchor(9, -1), note(0, note(0, start(math.MaxInt, "a"), end(math.MaxInt)))),
		{Settings: api.Settings{Comments: []api.Comment{{Id: 1, Parent: 1}, {Id: 1, Parent: 2}, {Id: 2}, {Id: 2, Parent: 2}, {}}}}}
	for range 100 {
		strange = append(strange, samples.Wrong(r.IntN))
	}
	for _, d := range strange {
		anchor.List(d)
		anchor.Bookmarks(d)
		anchor.Comments(d)
		anchor.Problems(d)
		anchor.Threads(d)
		for _, name := range []string{"", "mark", "\xFF", "a"} {
			if s, ok := anchor.Find(d, name); !ok && s != (anchor.Span{}) {
				t.Errorf("Find(%+v, %q) = %+v", d, name, s)
			}
			if s, ok := anchor.Text(d, name); !ok && s != "" {
				t.Errorf("Text(%+v, %q) = %q", d, name, s)
			}
		}
		for _, a := range samples.Numbers() {
			for _, b := range samples.Numbers() {
				if x, y, e := anchor.At(d, pos(a, b)); e != api.OK && len(x)+len(y) > 0 {
					t.Errorf("At(%+v, %d, %d) = %v, %v, %d", d, a, b, x, y, e)
				}
				if l, e := anchor.Add(d, "new", span(a, b, b)); e != api.OK && len(l) > 0 {
					t.Errorf("Add(%+v, %d, %d) = %+v, %d", d, a, b, l, e)
				}
			}
			if l, e := anchor.Remove(d, a); e != api.OK && len(l) > 0 {
				t.Errorf("Remove(%+v, %d) = %+v, %d", d, a, l, e)
			}
		}
	}
}

// TestP1Deep nests flows as deeply as the document permits.
func TestP1Deep(t *testing.T) {
	tables, notes := samples.Deep(1 << 16)
	for i, l := range [][]api.Item{tables, notes} {
		d := doc(append(flow(start(1, "a")), append(l, end(1))...)...)
		if all := anchor.List(d); len(all) != 2 || all[1].At != pos(0, 4) {
			t.Errorf("%d: the anchors are %+v", i, all)
		}
		if s, ok := anchor.Text(d, "a"); s != "a" || !ok {
			t.Errorf("%d: Text = %q, %v", i, s, ok)
		}
		if l, _, e := anchor.At(d, pos(2, 0)); len(l) > 0 || e != api.OK {
			t.Errorf("%d: At = %v, %d", i, l, e)
		}
		if l := anchor.Problems(d); len(l) > 0 {
			t.Errorf("%d: the problems are %+v", i, l)
		}
		if _, e := anchor.Add(d, "b", span(2, 0, 0)); e != api.ErrLimit {
			t.Errorf("%d: Add = %d", i, e)
		}
	}
	replies := make([]api.Comment, 1<<16)
	for i := range replies {
		replies[i] = api.Comment{Id: i + 1, Parent: i}
	}
	if l := anchor.Threads(api.Document{Settings: api.Settings{Comments: replies}}); len(l) != 1 || len(l[0].Replies) != len(replies)-1 {
		t.Errorf("%d threads", len(l))
	}
}

func TestP16_1List(t *testing.T) {
	inner := table(5, row(cell(6, text("a"), end(1)), cell(7)), row(cell(8, commentEnd(2))))
	d := doc(text("\u00e9b"), start(1, "x"), note(4, commentStart(2), para()), inner, commentEnd(2))
	want := []anchor.Anchor{
		{api.BookmarkStart, 1, "x", pos(0, 2)}, {api.CommentStart, 2, "", pos(4, 0)}, {api.BookmarkEnd, 1, "", pos(6, 1)}, {api.CommentEnd, 2, "", pos(8, 0)}, {api.CommentEnd, 2, "", pos(0, 5)},
	}
	if got := anchor.List(d); !slices.Equal(got, want) {
		t.Errorf("List = %+v", got)
	}
	many(400, 2, func(r *rand.Rand, d api.Document) {
		if got, want := anchor.List(d), naiveList(0, d.Flow); !slices.Equal(got, want) {
			t.Fatalf("List(%+v) = %+v; want %+v", d, got, want)
		}
	})
}

func TestP16_2Examples(t *testing.T) {
	whole := doc(start(1, "a"), text("xyz"), end(1), para())
	if got := anchor.Bookmarks(whole); !slices.Equal(got, []anchor.Span{named(1, "a", pos(0, 1), pos(0, 4))}) {
		t.Errorf("the chapter's bookmarks are %+v", got)
	}
	for i, c := range []struct {
		d                   api.Document
		bookmarks, comments []anchor.Span
	}{
		{doc(start(1, "a"), text("xyz"), para()), []anchor.Span{named(1, "a", pos(0, 1), pos(0, 1))}, nil},
		{doc(end(1), start(1, "a"), text("xyz"), end(1)), []anchor.Span{named(1, "a", pos(0, 2), pos(0, 2))}, nil}, // the first end counts
		{doc(start(1, "a"), start(1, "b"), end(1)), []anchor.Span{named(1, "a", pos(0, 1), pos(0, 2))}, nil},
		{doc(start(1, "a"), end(1)), []anchor.Span{named(1, "a", pos(0, 1), pos(0, 1))}, nil}, {doc(end(1)), nil, nil}, {doc(commentEnd(1), end(2)), nil, nil},
		{doc(start(1, "a"), note(4, text("x"), end(1)), end(1)), []anchor.Span{named(1, "a", pos(0, 1), pos(0, 1))}, nil}, // that in the note is the first one
		{doc(note(4, start(1, "a"), text("x"), end(1)), text("y")), []anchor.Span{named(1, "a", pos(4, 1), pos(4, 2))}, nil},
		{doc(start(2, "b"), start(1, "a"), end(2), end(1)), []anchor.Span{named(2, "b", pos(0, 1), pos(0, 2)), named(1, "a", pos(0, 2), pos(0, 3))}, nil},
		{doc(start(1, "a"), commentStart(1), end(1), commentEnd(1), commentStart(9)), []anchor.Span{named(1, "a", pos(0, 1), pos(0, 2))}, []anchor.Span{named(1, "", pos(0, 2), pos(0, 3)), named(9, "", pos(0, 5), pos(0, 5))}},
		{doc(start(1, "a"), commentEnd(1), commentStart(2), end(2)), []anchor.Span{named(1, "a", pos(0, 1), pos(0, 1))}, []anchor.Span{named(2, "", pos(0, 3), pos(0, 3))}},
	} {
		if got := anchor.Bookmarks(c.d); !slices.Equal(got, c.bookmarks) {
			t.Errorf("%d: Bookmarks = %+v", i, got)
		}
		if got := anchor.Comments(c.d); !slices.Equal(got, c.comments) {
			t.Errorf("%d: Comments = %+v", i, got)
		}
	}
}

func TestP16_2Spans(t *testing.T) {
	wide := 0
	many(800, 3, func(r *rand.Rand, d api.Document) {
		bookmarks, comments := naiveSpans(d, api.BookmarkStart, api.BookmarkEnd), naiveSpans(d, api.CommentStart, api.CommentEnd)
		if got := anchor.Bookmarks(d); !slices.Equal(got, bookmarks) {
			t.Fatalf("Bookmarks(%+v) = %+v; want %+v", d, got, bookmarks)
		}
		if got := anchor.Comments(d); !slices.Equal(got, comments) {
			t.Fatalf("Comments(%+v) = %+v; want %+v", d, got, comments)
		}
		for _, s := range append(bookmarks, comments...) {
			if s.From.Flow != s.To.Flow || s.From.At > s.To.At {
				t.Fatalf("in %+v: %+v", d, s)
			}
			wide += s.To.At - s.From.At
		}
	})
	if wide < 500 {
		t.Errorf("the ranges have %d units", wide)
	}
}

func TestP16_3Examples(t *testing.T) {
	bold := api.Prop{Key: api.KeyBold, Value: 1}
	inside := note(4, text("in the note"))
	d := doc(start(2, "two"), text("x\u00e9"), start(1, "one"), text("y", bold), inside, samples.Field("page"), para(), table(5, row(cell(6, text("in the table"), start(3, "in"), text("cell"), end(3)))), end(2), text("z"), end(1), start(7, "one"), text("w"), end(7), start(8, "open"), text("rest"))
	for name, want := range map[string]string{"two": "x\u00e9y", "one": "yz", "in": "cell", "open": ""} {
		if s, ok := anchor.Text(d, name); s != want || !ok {
			t.Errorf("Text(%q) = %q, %v", name, s, ok)
		}
	}
	if s, ok := anchor.Find(d, "one"); s != named(1, "one", pos(0, 4), pos(0, 11)) || !ok {
		t.Errorf("Find = %+v, %v", s, ok)
	}
	for _, name := range []string{"", "One", "three", "x\xFF"} {
		s, ok := anchor.Text(d, name)
		b, found := anchor.Find(d, name)
		if s != "" || ok || b != (anchor.Span{}) || found {
			t.Errorf("%q: %q, %v; %+v, %v", name, s, ok, b, found)
		}
	}
	if s, ok := anchor.Text(doc(start(1, "a"), start(1, "b"), text("x"), end(1)), "b"); s != "" || ok {
		t.Errorf("a repeated start gives its name: %q", s)
	}
}

func TestP16_3FindAndText(t *testing.T) {
	long := 0
	many(600, 4, func(r *rand.Rand, d api.Document) {
		all := naiveSpans(d, api.BookmarkStart, api.BookmarkEnd)
		for _, name := range []string{"a", "b", "Mark", "x-1", "mark", "A"} {
			var want anchor.Span
			var wantText strings.Builder
			i := slices.IndexFunc(all, func(s anchor.Span) bool { return s.Name == name })
			if i >= 0 {
				want = all[i]
				l, _ := document.Flow(d, want.From.Flow)
				for _, u := range samples.Units(l)[want.From.At:want.To.At] {
					if u.Kind == api.Text {
						wantText.WriteString(u.Text)
					}
				}
			}
			if got, ok := anchor.Find(d, name); got != want || ok != (i >= 0) {
				t.Fatalf("Find(%+v, %q) = %+v, %v; want %+v", d, name, got, ok, want)
			}
			if got, ok := anchor.Text(d, name); got != wantText.String() || ok != (i >= 0) {
				t.Fatalf("Text(%+v, %q) = %q, %v; want %q", d, name, got, ok, wantText.String())
			}
			long += wantText.Len()
		}
	})
	if long < 100 {
		t.Errorf("the texts have %d bytes", long)
	}
}

func TestP16_4At(t *testing.T) {
	around := func(l []anchor.Span, p api.Pos) []int {
		var ids []int
		for _, s := range l {
			if s.From.Flow == p.Flow && s.From.At <= p.At && p.At <= s.To.At {
				ids = append(ids, s.Id)
			}
		}
		return ids
	}
	several := 0
	many(400, 5, func(r *rand.Rand, d api.Document) {
		bookmarks, comments := naiveSpans(d, api.BookmarkStart, api.BookmarkEnd), naiveSpans(d, api.CommentStart, api.CommentEnd)
		for _, p := range places(d) {
			b, c, e := anchor.At(d, p)
			if !slices.Equal(b, around(bookmarks, p)) || !slices.Equal(c, around(comments, p)) || e != api.OK {
				t.Fatalf("At(%+v, %+v) = %v, %v, %d", d, p, b, c, e)
			}
			if len(b) > 1 || len(c) > 1 {
				several++
			}
		}
	})
	if several < 30 {
		t.Errorf("%d positions are in several ranges", several)
	}
	d := doc(text("ab"), table(3, row(cell(5, text("\u00e9")))))
	for _, c := range []struct {
		p    api.Pos
		want api.Errno
	}{{pos(3, 0), api.ErrNotFound}, {pos(6, -1), api.ErrNotFound}, {pos(-1, 9), api.ErrNotFound}, {pos(0, 4), api.ErrRange}, {pos(0, -1), api.ErrRange}, {pos(5, 2), api.ErrRange}, {pos(5, math.MinInt), api.ErrRange}, {pos(5, 1), api.OK}} {
		if b, l, e := anchor.At(d, c.p); len(b)+len(l) > 0 || e != c.want {
			t.Errorf("At(%+v) = %v, %v, %d", c.p, b, l, e)
		}
	}
}

func TestP16_5Examples(t *testing.T) {
	problem := func(code, id, flow, at int) anchor.Problem {
		return anchor.Problem{Code: code, Id: id, At: pos(flow, at)}
	}
	two := comments(0, 1, 0)
	for i, c := range []struct {
		l        []api.Item
		comments []api.Comment
		want     []anchor.Problem
	}{
		{flow(start(1, "a"), text("xyz"), para()), nil, []anchor.Problem{problem(anchor.NoEnd, 1, 0, 0)}},
		{flow(text("x"), end(1), end(1)), nil, []anchor.Problem{problem(anchor.NoStart, 1, 0, 1), problem(anchor.Repeated, 1, 0, 2)}},
		{flow(end(1), start(1, "a"), start(1, "a"), end(1)), nil, []anchor.Problem{problem(anchor.Reversed, 1, 0, 1), problem(anchor.Repeated, 1, 0, 2), problem(anchor.Repeated, 1, 0, 3)}},
		{flow(start(1, "a"), start(1, "b"), end(1), start(2, "b"), end(2)), nil, []anchor.Problem{problem(anchor.Repeated, 1, 0, 1)}}, // a repeated start has no name
		{flow(start(1, "a"), start(2, "a"), end(1), start(3, "a")), nil, []anchor.Problem{problem(anchor.SameName, 2, 0, 1), problem(anchor.SameName, 3, 0, 3)}},
		{flow(start(1, "a"), note(4, end(1))), nil, []anchor.Problem{problem(anchor.OtherFlow, 1, 0, 0)}},
		{flow(note(4, end(1)), start(1, "a"), end(1)), nil, []anchor.Problem{problem(anchor.OtherFlow, 1, 0, 1), problem(anchor.Repeated, 1, 0, 2)}},
		{flow(commentStart(1), commentEnd(1)), nil, []anchor.Problem{problem(anchor.NoComment, 1, 0, 0)}}, {flow(commentStart(1)), nil, []anchor.Problem{problem(anchor.NoEnd, 1, 0, 0)}}, {flow(commentEnd(1)), nil, []anchor.Problem{problem(anchor.NoStart, 1, 0, 0)}},
		{flow(commentEnd(1), commentStart(1)), nil, []anchor.Problem{problem(anchor.Reversed, 1, 0, 1)}}, {flow(start(9, "a"), end(9)), nil, nil},
		{nil, two, []anchor.Problem{{anchor.NoAnchor, 1, api.Pos{}}, {anchor.NoAnchor, 3, api.Pos{}}}},
		{flow(commentStart(3), commentEnd(3), commentStart(2), commentEnd(2), commentEnd(1)), two, []anchor.Problem{problem(anchor.NoStart, 1, 0, 4), {anchor.NoAnchor, 1, api.Pos{}}}},
		{flow(commentStart(3), commentStart(1), commentEnd(3), commentEnd(1)), two, nil},
	} {
		d := api.Document{Flow: c.l, Settings: api.Settings{Comments: c.comments}}
		if got := anchor.Problems(d); !slices.Equal(got, c.want) {
			t.Errorf("%d: Problems = %+v", i, got)
		}
	}
}

func TestP16_5Codes(t *testing.T) {
	codes := []int{anchor.NoStart, anchor.NoEnd, anchor.Repeated, anchor.OtherFlow, anchor.Reversed, anchor.SameName, anchor.NoComment, anchor.NoAnchor}
	if !slices.Equal(codes, []int{1, 2, 3, 4, 5, 6, 7, 8}) {
		t.Errorf("the codes of problems are %v", codes)
	}
}

func TestP16_5Problems(t *testing.T) {
	codes := make(map[int]int)
	many(1500, 6, func(r *rand.Rand, d api.Document) {
		l := naiveList(0, d.Flow)
		var want []anchor.Problem
		for i, a := range l {
			if code := naiveProblem(d, l, i); code != 0 {
				want = append(want, anchor.Problem{Code: code, Id: a.Id, At: a.At})
			}
		}
		for _, c := range d.Settings.Comments {
			if c.Parent == 0 && naiveFirst(l, api.CommentStart, c.Id) < 0 {
				want = append(want, anchor.Problem{Code: anchor.NoAnchor, Id: c.Id})
			}
		}
		if got := anchor.Problems(d); !slices.Equal(got, want) {
			t.Fatalf("Problems(%+v) = %+v; want %+v", d, got, want)
		}
		for _, p := range want {
			codes[p.Code]++
		}
	})
	for code := anchor.NoStart; code <= anchor.NoAnchor; code++ {
		if codes[code] < 20 {
			t.Errorf("the problem %d occurs %d times", code, codes[code])
		}
	}
}

func TestP16_6Threads(t *testing.T) {
	for i, c := range []struct {
		parents []int
		want    []anchor.Thread
	}{
		{[]int{0, 1, 0, 2}, []anchor.Thread{{1, []int{2, 4}}, {Root: 3}}}, {nil, nil}, {[]int{0}, []anchor.Thread{{Root: 1}}},
		{[]int{0, 0, 1, 2, 3, 2, 1}, []anchor.Thread{{1, []int{3, 5, 7}}, {2, []int{4, 6}}}}, {[]int{0, 1, 2, 3, 4}, []anchor.Thread{{1, []int{2, 3, 4, 5}}}},
	} {
		d := api.Document{Settings: api.Settings{Comments: comments(c.parents...)}}
		if got := anchor.Threads(d); show(got) != show(c.want) {
			t.Errorf("%d: Threads = %+v", i, got)
		}
	}
	r := rand.New(rand.NewPCG(16, 7))
	for range 300 {
		var l []api.Comment
		for range r.IntN(12) {
			c := api.Comment{Id: 1 + r.IntN(5), Author: "a"}
			if len(l) > 0 {
				c.Id += l[len(l)-1].Id
				c.Parent = []int{0, l[r.IntN(len(l))].Id}[r.IntN(2)]
			}
			l = append(l, c)
		}
		root := func(c api.Comment) int {
			for c.Parent != 0 {
				c = l[slices.IndexFunc(l, func(other api.Comment) bool { return other.Id == c.Parent })]
			}
			return c.Id
		}
		var want []anchor.Thread
		for _, c := range l {
			if c.Parent != 0 {
				continue
			}
			thread := anchor.Thread{Root: c.Id}
			for _, reply := range l {
				if reply.Parent != 0 && root(reply) == c.Id {
					thread.Replies = append(thread.Replies, reply.Id)
				}
			}
			want = append(want, thread)
		}
		if got := anchor.Threads(api.Document{Settings: api.Settings{Comments: l}}); show(got) != show(want) {
			t.Fatalf("Threads(%+v) = %+v; want %+v", l, got, want)
		}
	}
}

func TestP16_7Add(t *testing.T) {
	d := doc(text("abc"), commentStart(9), end(4), note(5, text("xy")))
	l, e := anchor.Add(d, "new", span(5, 0, 2))
	want := []api.Edit{{Kind: api.EditPutAnchor, Flow: 5, At: 2, Items: flow(end(5))}, {Kind: api.EditPutAnchor, Flow: 5, At: 0, Items: flow(start(5, "new"))}}
	if show(l) != show(want) || e != api.OK || !samples.Apart(l) {
		t.Errorf("Add = %+v, %d", l, e)
	}
	if l, e := anchor.Add(api.Document{}, "new", span(0, 0, 0)); len(l) != 2 || l[0].Items[0].Id != 1 || e != api.OK {
		t.Errorf("Add = %+v, %d", l, e)
	}
}

func TestP16_7Errors(t *testing.T) {
	long := func(units int) api.Item { return text(strings.Repeat("a", units)) }
	full := doc(start(api.MaxId, "old"), note(5), long(api.MaxUnits-3)) // there is room for one unit
	for i, c := range []struct {
		d    api.Document
		name string
		r    api.Range
		want api.Errno
	}{
		{full, "", span(1, 0, 0), api.ErrName}, {full, "1a", span(0, 0, 0), api.ErrName}, {full, "\u00e9", span(0, 0, 0), api.ErrName}, {full, strings.Repeat("a", 41), span(0, 0, 0), api.ErrName}, {full, "old\xFF", span(0, 0, 0), api.ErrName},
		{full, "old", span(1, 0, 0), api.ErrDuplicate}, {full, "new", span(1, 1, 0), api.ErrNotFound}, {full, "Old", span(-1, 0, 0), api.ErrNotFound},
		{full, "new", span(0, 1, 0), api.ErrRange}, {full, "new", span(0, -1, 0), api.ErrRange}, {full, "new", span(5, 0, 1), api.ErrRange}, {full, "new", span(5, 1, 1), api.ErrRange}, {full, "new", span(0, 0, math.MaxInt), api.ErrRange},
		{full, "new", span(0, 0, 1), api.ErrId}, {doc(end(api.MaxId), long(api.MaxUnits-1)), "new", span(0, 0, 0), api.ErrId}, {doc(commentEnd(api.MaxId), end(api.MaxId-1)), "new", span(0, 0, 1), api.OK},
		{doc(long(api.MaxUnits - 1)), "new", span(0, 0, 0), api.ErrLimit}, {doc(long(api.MaxUnits)), "new", span(0, 0, 0), api.ErrLimit}, {doc(long(api.MaxUnits - 2)), "new", span(0, 0, api.MaxUnits-2), api.OK}, {doc(long(api.MaxUnits-4), note(1, text("a"))), "new", span(1, 0, 1), api.OK}, {doc(long(api.MaxUnits-4), note(1, text("ab"))), "new", span(1, 0, 1), api.ErrLimit},
		{doc(start(1, "a"), start(1, "b")), "b", span(0, 0, 0), api.OK}, // a repeated start has no name
	} {
		l, e := anchor.Add(c.d, c.name, c.r)
		if e != c.want || len(l) != map[bool]int{true: 2}[e == api.OK] {
			t.Errorf("%d: Add = %+v, %d; want %d", i, l, e, c.want)
		}
		if e == api.OK {
			if _, _, f := edit.Run(c.d, l); f != api.OK {
				t.Errorf("%d: the edits lead to %d", i, f)
			}
		}
	}
}

func TestP16_8Remove(t *testing.T) {
	d := doc(start(1, "a"), commentStart(1), end(2), note(4, end(1), start(1, "b")), commentEnd(1), end(1))
	l, e := anchor.Remove(d, 1)
	want := []api.Edit{{Kind: api.EditDropAnchor, At: 5}, {Kind: api.EditDropAnchor, Flow: 4, At: 1}, {Kind: api.EditDropAnchor, Flow: 4}, {Kind: api.EditDropAnchor}}
	if show(l) != show(want) || e != api.OK {
		t.Errorf("Remove = %+v, %d", l, e)
	}
	for _, id := range []int{0, 3, -1, math.MaxInt} {
		if l, e := anchor.Remove(d, id); len(l) > 0 || e != api.ErrNotFound {
			t.Errorf("Remove(%d) = %+v, %d", id, l, e)
		}
	}
	if l, e := anchor.Remove(doc(commentStart(1), commentEnd(1)), 1); len(l) > 0 || e != api.ErrNotFound {
		t.Errorf("Remove of a comment = %+v, %d", l, e)
	}
}

// without returns the units of the flows, the flows and tables in them and the anchors of a bookmark left out.
func without(d api.Document, id int) string {
	all := make(map[int]string)
	for _, f := range document.Flows(d) {
		l, _ := document.Flow(d, f)
		for _, u := range samples.Units(l) {
			if u.Kind != api.Anchor || u.Id != id || u.Code > api.BookmarkEnd {
				u.Flow, u.Rows = nil, nil
				all[f] += show(u)
			}
		}
	}
	return show(all)
}

func TestP16_9AddAndRemove(t *testing.T) {
	r := rand.New(rand.NewPCG(16, 9))
	for range 400 {
		d := scatter(r, samples.Plain(r.IntN), r.IntN(6))
		before := show(d)
		all := places(d)
		from := all[r.IntN(len(all))]
		to := from
		for _, p := range all {
			if p.Flow == from.Flow && p.At > from.At && r.IntN(2) == 0 {
				to = p
			}
		}
		edits, e := anchor.Add(d, "fresh", span(from.Flow, from.At, to.At))
		added, at, f := edit.Run(d, edits)
		if e != api.OK || f != api.OK || at != 2 || document.Check(added) != api.OK {
			t.Fatalf("Add to %+v: %+v, %d; %d", d, edits, e, f)
		}
		id := edits[0].Items[0].Id
		if s, ok := anchor.Find(added, "fresh"); !ok || s != named(id, "fresh", pos(from.Flow, from.At+1), pos(from.Flow, to.At+1)) {
			t.Fatalf("from %+v to %+v of %+v: %+v", from, to, d, s)
		}
		if without(added, id) != without(d, id) {
			t.Fatalf("%+v became %+v", d, added)
		}
		edits, e = anchor.Remove(added, id)
		removed, _, f := edit.Run(added, edits)
		if e != api.OK || f != api.OK || show(removed) != show(document.Normal(d)) {
			t.Fatalf("%+v, %d, %d lead from %+v to %+v", edits, e, f, added, removed)
		}
		for _, a := range anchor.List(d) {
			if a.Code > api.BookmarkEnd {
				continue
			}
			edits, e := anchor.Remove(d, a.Id)
			removed, _, f := edit.Run(d, edits)
			gone := !slices.ContainsFunc(anchor.List(removed), func(b anchor.Anchor) bool { return b.Id == a.Id && b.Code <= api.BookmarkEnd })
			if e != api.OK || f != api.OK || !gone || without(removed, a.Id) != without(d, a.Id) || document.Check(removed) != api.OK {
				t.Fatalf("%+v, %d, %d lead from %+v to %+v", edits, e, f, d, removed)
			}
		}
		if show(d) != before {
			t.Fatalf("%s was changed to %+v", before, d)
		}
	}
}
