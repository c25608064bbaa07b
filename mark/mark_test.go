package mark_test

import (
	"math"
	"slices"
	"testing"

	"obelus/api"
	"obelus/mark"
	"obelus/samples"
)

const bold = api.KeyBold

func isZero(h api.Head) bool { return show(h) == show(api.Head{}) }

func TestP1AllArguments(t *testing.T) {
	s := newSource(1)
	numbers := append(samples.Numbers(), api.MaxId, api.KeyBold, api.KeySize)
	number := func() int { return numbers[s.IntN(len(numbers))] }
	some := func() (l []int) {
		for range s.IntN(6) {
			l = append(l, number())
		}
		return l
	}
	for i := range 6000 {
		h, c := s.wild(), api.Decision{Accept: some(), Reject: some()}
		if i%10 == 0 {
			h.Marks.Dels, h.Marks.Layers = make([]api.Del, 20), make([]api.Layer, 70)
		}
		if got, e := mark.Union(c, api.Decision{Accept: some(), Reject: some()}); e != api.OK && show(got) != show(api.Decision{}) {
			t.Fatalf("Union = %v, %d", got, e)
		}
		for _, f := range []func() (api.Head, bool){func() (api.Head, bool) { return mark.Decide(h, c) }, func() (api.Head, bool) { return mark.Original(h) }, func() (api.Head, bool) { return mark.Final(h) }} {
			if got, remains := f(); !remains && !isZero(got) {
				t.Fatalf("%d: of %+v nothing remains, but %+v", i, h, got)
			}
		}
		if got, remains, e := mark.Delete(h, number(), number()); (e != api.OK || !remains) && (!isZero(got) || remains) {
			t.Fatalf("Delete(%+v) = %+v, %v, %d", h, got, remains, e)
		}
		if got, e := mark.Set(h, number(), prop(number(), number()), s.IntN(2) == 0); e != api.OK && !isZero(got) {
			t.Fatalf("Set(%+v) = %+v, %d", h, got, e)
		}
		mark.Base(h, number())
		mark.CheckDecision(c)
		mark.Visible(h)
		mark.Existed(h)
		mark.Plain(h)
		mark.IsPlain(h)
		mark.Insert(h, number(), number())
		mark.Layers(h, number())
		mark.Revs(h)
		mark.Uses(h, number())
	}
}

func TestP23_1CheckDecision(t *testing.T) {
	for i, c := range []struct {
		accept, reject []int
		want           api.Errno
	}{
		{nil, nil, api.OK}, {[]int{1}, []int{2}, api.OK}, {[]int{1, api.MaxId}, []int{2, 3}, api.OK}, {nil, []int{5}, api.OK}, {[]int{1, 2}, []int{}, api.OK},
		{[]int{0}, nil, api.ErrRevision}, {nil, []int{-1}, api.ErrRevision}, {[]int{api.MaxId + 1}, nil, api.ErrRevision}, {nil, []int{math.MaxInt}, api.ErrRevision}, {nil, []int{math.MinInt}, api.ErrRevision}, {[]int{0, 0}, nil, api.ErrRevision}, {[]int{2, 0}, nil, api.ErrRevision}, {[]int{2, api.MaxId + 1}, nil, api.ErrRevision},
		{[]int{2, 2}, nil, api.ErrDuplicate}, {nil, []int{1, 2, 2}, api.ErrDuplicate}, {[]int{2, 1}, nil, api.ErrOrder}, {nil, []int{1, 3, 2}, api.ErrOrder}, {[]int{1, 3, 1}, nil, api.ErrOrder},
		{[]int{2, 2, 1}, nil, api.ErrDuplicate}, {[]int{2, 1, 1}, nil, api.ErrOrder}, {[]int{2, 2, 0}, nil, api.ErrDuplicate}, {[]int{2, 1, 0}, nil, api.ErrOrder}, {[]int{3, 3}, []int{0}, api.ErrDuplicate}, {[]int{3, 1}, []int{0}, api.ErrOrder}, {[]int{0}, []int{3, 3}, api.ErrRevision},
		{[]int{1}, []int{1}, api.ErrConflict}, {[]int{1, 2, 3}, []int{3, 4}, api.ErrConflict}, {[]int{7}, []int{1, 4, 7, 9}, api.ErrConflict}, {[]int{1}, []int{1, 1}, api.ErrDuplicate}, {[]int{1}, []int{1, 0}, api.ErrRevision}, {[]int{2}, []int{2, 1}, api.ErrOrder},
	} {
		d := api.Decision{Accept: c.accept, Reject: c.reject}
		if e := mark.CheckDecision(d); e != c.want || naiveCheck(d) != c.want {
			t.Errorf("%d: CheckDecision(%v) = %d or %d; want %d", i, d, e, naiveCheck(d), c.want)
		}
		if got, e := mark.Union(d, api.Decision{}); e != c.want || e == api.OK && show(got) != show(d) {
			t.Errorf("%d: Union with nothing = %v, %d", i, got, e)
		}
		if got, e := mark.Union(api.Decision{}, d); e != c.want || e == api.OK && show(got) != show(d) {
			t.Errorf("%d: Union of nothing with it = %v, %d", i, got, e)
		}
	}
}

// smallDecisions returns all decisions with at most two numbers in each list, valid ones and others.
func smallDecisions() (all []api.Decision) {
	lists := [][]int{nil}
	for a := range 4 {
		lists = append(lists, []int{a})
		for b := range 4 {
			lists = append(lists, []int{a, b})
		}
	}
	for _, a := range lists {
		for _, b := range lists {
			all = append(all, api.Decision{Accept: a, Reject: b})
		}
	}
	return all
}

func TestP23_1Union(t *testing.T) {
	errors := make(map[api.Errno]int)
	small := smallDecisions()
	for _, a := range small {
		if e := mark.CheckDecision(a); e != naiveCheck(a) {
			t.Errorf("CheckDecision(%v) = %d; want %d", a, e, naiveCheck(a))
		}
		for _, b := range small {
			both := api.Decision{Accept: slices.Concat(a.Accept, b.Accept), Reject: slices.Concat(a.Reject, b.Reject)}
			slices.Sort(both.Accept)
			slices.Sort(both.Reject)
			both.Accept, both.Reject = slices.Compact(both.Accept), slices.Compact(both.Reject)
			want := naiveCheck(a)
			if want == api.OK {
				want = naiveCheck(b)
			}
			if want == api.OK {
				want = naiveCheck(both)
			}
			if want != api.OK {
				both = api.Decision{}
			}
			errors[want]++
			if got, e := mark.Union(a, b); show(got) != show(both) || e != want {
				t.Fatalf("Union(%v, %v) = %v, %d; want %v, %d", a, b, got, e, both, want)
			}
		}
	}
	if errors[api.OK] < 100 || errors[api.ErrConflict] < 100 {
		t.Errorf("the errors are %v", errors)
	}
	order := [][2]api.Decision{{{Accept: []int{0}}, {Accept: []int{2, 1}}}, {{Accept: []int{2, 1}}, {Accept: []int{0}}}, {{Accept: []int{1}}, {Accept: []int{0}, Reject: []int{1}}}, {{Accept: []int{1}, Reject: []int{5}}, {Accept: []int{5}}}}
	for i, want := range []api.Errno{api.ErrRevision, api.ErrOrder, api.ErrRevision, api.ErrConflict} {
		if _, e := mark.Union(order[i][0], order[i][1]); e != want {
			t.Errorf("%d: Union = %d; want %d", i, e, want)
		}
	}
}

// TestP23_2Examples checks the examples of the chapter, and of the document, and some more.
func TestP23_2Examples(t *testing.T) {
	const a, b, c = 1, 2, 3
	three := head(prop(bold, 1), api.Marks{Layers: []api.Layer{layer(a, bold, 0), layer(b, bold, 1), layer(c, bold, 2)}})
	sizes := head(prop(api.KeySize, 28), api.Marks{Layers: []api.Layer{layer(a, api.KeySize, 20), layer(b, api.KeySize, 24)}})
	both := api.Head{Marks: api.Marks{Ins: 3, Move: 4, Dels: []api.Del{{Rev: 5, Move: 6}}}}
	cleared := api.Head{Marks: api.Marks{Layers: []api.Layer{unset(a, bold), layer(b, bold, 1)}}}
	gone := api.Head{Props: []api.Prop{prop(-1, -1)}}
	for i, x := range []struct {
		h              api.Head
		accept, reject []int
		want           api.Head
	}{
		{three, nil, nil, three}, {three, nil, []int{b}, head(prop(bold, 1), api.Marks{Layers: []api.Layer{layer(a, bold, 0), layer(c, bold, 1)}})}, {three, nil, []int{a, b}, head(prop(bold, 1), api.Marks{Layers: []api.Layer{layer(c, bold, 0)}})}, {three, []int{b}, []int{c}, head(prop(bold, 2), api.Marks{})},
		{three, []int{a}, nil, head(prop(bold, 1), api.Marks{Layers: []api.Layer{layer(b, bold, 1), layer(c, bold, 2)}})}, {three, []int{c}, nil, head(prop(bold, 1), api.Marks{})}, {three, []int{c}, []int{a, b}, head(prop(bold, 1), api.Marks{})}, {three, nil, []int{c}, head(prop(bold, 2), api.Marks{Layers: []api.Layer{layer(a, bold, 0), layer(b, bold, 1)}})}, {three, []int{a}, []int{b}, head(prop(bold, 1), api.Marks{Layers: []api.Layer{layer(c, bold, 1)}})}, {three, []int{7}, []int{8}, three},
		{sizes, nil, []int{a}, head(prop(api.KeySize, 28), api.Marks{Layers: []api.Layer{layer(b, api.KeySize, 20)}})}, {sizes, nil, []int{a, b}, head(prop(api.KeySize, 20), api.Marks{})}, {sizes, nil, []int{b}, head(prop(api.KeySize, 24), api.Marks{Layers: []api.Layer{layer(a, api.KeySize, 20)}})},
		{both, nil, []int{3}, gone}, {both, []int{5}, nil, gone}, {both, []int{3}, []int{5}, api.Head{}}, {both, []int{3}, nil, api.Head{Marks: api.Marks{Dels: both.Marks.Dels}}}, {both, nil, []int{5}, api.Head{Marks: api.Marks{Ins: 3, Move: 4}}}, {both, []int{3, 5}, nil, gone}, {both, nil, []int{3, 5}, gone}, {both, []int{4}, []int{6}, both},
		{cleared, nil, []int{a}, api.Head{Marks: api.Marks{Layers: []api.Layer{unset(b, bold)}}}}, {cleared, nil, []int{b}, head(prop(bold, 1), api.Marks{Layers: []api.Layer{unset(a, bold)}})}, {cleared, []int{a}, []int{b}, head(prop(bold, 1), api.Marks{})}, {cleared, []int{b}, []int{a}, api.Head{}},
	} {
		got, remains := mark.Decide(x.h, api.Decision{Accept: x.accept, Reject: x.reject})
		if want := show(x.want) != show(gone); remains != want || want && show(got) != show(x.want) || !want && !isZero(got) {
			t.Errorf("%d: Decide = %+v, %v; want %+v", i, got, remains, x.want)
		}
	}
}

// TestP23_2AllLayers decides in all ways about all small lists of layers of a key.
func TestP23_2AllLayers(t *testing.T) {
	states := []state{{}, {0, true}, {1, true}}
	decisions := allDecisions(1, 2, 3)
	var extend func(h api.Head, count int)
	check := func(h api.Head) {
		for _, s := range states {
			h.Props = nil
			if s.has {
				h.Props = []api.Prop{prop(bold, s.value)}
			}
			for _, c := range decisions {
				want, _ := naiveDecide(h, c)
				if got, remains := mark.Decide(h, c); show(got) != show(want) || !remains {
					t.Fatalf("Decide(%+v, %v) = %+v, %v; want %+v", h, c, got, remains, want)
				}
			}
		}
	}
	extend = func(h api.Head, count int) {
		check(h)
		if count == 0 {
			return
		}
		layers := h.Marks.Layers
		for _, s := range states {
			for rev := 1; rev <= 3; rev++ {
				h.Marks.Layers = append(slices.Clone(layers), api.Layer{Rev: rev, Key: bold, Before: s.value, Had: s.has})
				extend(h, count-1)
			}
		}
	}
	extend(api.Head{}, 3)
}

func TestP23_2Many(t *testing.T) {
	s := newSource(2)
	gone, changed := 0, 0
	for range 20000 {
		h, c := s.head(4), s.decision()
		want, is := naiveDecide(h, c)
		got, remains := mark.Decide(h, c)
		if show(got) != show(want) || remains != is || !isOrdered(got) {
			t.Fatalf("Decide(%+v, %v) = %+v, %v; want %+v, %v", h, c, got, remains, want, is)
		}
		if !remains {
			gone++
		} else if show(got) != show(h) {
			changed++
		}
	}
	if gone < 2000 || changed < 5000 {
		t.Errorf("%d disappeared, %d were changed", gone, changed)
	}
}

func TestP23_3Views(t *testing.T) {
	s := newSource(3)
	kinds := make(map[[2]bool]int)
	for range 10000 {
		h := s.head(3)
		all := naiveRevs(h)
		original, existed := naiveDecide(h, api.Decision{Reject: all})
		final, visible := naiveDecide(h, api.Decision{Accept: all})
		if got, remains := mark.Original(h); show(got) != show(original) || remains != existed || !isOrdered(got) {
			t.Fatalf("Original(%+v) = %+v, %v; want %+v, %v", h, got, remains, original, existed)
		}
		if got, remains := mark.Final(h); show(got) != show(final) || remains != visible || !isOrdered(got) {
			t.Fatalf("Final(%+v) = %+v, %v; want %+v, %v", h, got, remains, final, visible)
		}
		if mark.Visible(h) != visible || mark.Existed(h) != existed {
			t.Fatalf("Visible(%+v) = %v, Existed = %v", h, mark.Visible(h), mark.Existed(h))
		}
		kinds[[2]bool{existed, visible}]++
	}
	for _, kind := range [][2]bool{{}, {true}, {false, true}, {true, true}} {
		if kinds[kind] < 1000 {
			t.Errorf("the kinds are %v", kinds)
		}
	}
	for i, c := range []struct {
		m                api.Marks
		existed, visible bool
	}{{api.Marks{}, true, true}, {api.Marks{Ins: -1}, false, true}, {api.Marks{Ins: math.MaxInt, Move: 1}, false, true}, {api.Marks{Dels: []api.Del{{}}}, true, false}, {api.Marks{Dels: []api.Del{{Rev: -2}}}, true, false}, {api.Marks{Ins: 1, Dels: []api.Del{{Rev: 1}}}, false, false}, {api.Marks{Dels: []api.Del{}, Layers: []api.Layer{unset(1, bold)}}, true, true}} {
		h := api.Head{Marks: c.m}
		if mark.Existed(h) != c.existed || mark.Visible(h) != c.visible {
			t.Errorf("%d: Existed = %v, Visible = %v", i, mark.Existed(h), mark.Visible(h))
		}
		_, existed := mark.Original(h)
		_, visible := mark.Final(h)
		if existed != c.existed || visible != c.visible {
			t.Errorf("%d: Original = %v, Final = %v", i, existed, visible)
		}
	}
}

func TestP23_4Plain(t *testing.T) {
	for i, m := range []api.Marks{{}, {Dels: []api.Del{}, Layers: []api.Layer{}}, {Ins: 1}, {Ins: -1}, {Ins: 1, Move: 1}, {Dels: []api.Del{{}}}, {Layers: []api.Layer{{}}}, {Move: 1}} {
		h := head(prop(bold, 1), m)
		if got := mark.IsPlain(h); got != (i < 2) {
			t.Errorf("%d: IsPlain = %v", i, got)
		}
		if got := mark.Plain(h); show(got) != show(head(prop(bold, 1), api.Marks{})) || !mark.IsPlain(got) {
			t.Errorf("%d: Plain = %+v", i, got)
		}
	}
	s := newSource(4)
	for range 3000 {
		h := s.head(2)
		if got := mark.Plain(h); show(got.Props) != show(h.Props) || show(got.Marks) != show(api.Marks{}) {
			t.Fatalf("Plain(%+v) = %+v", h, got)
		}
		if got, want := mark.IsPlain(h), show(h.Marks) == show(api.Marks{}); got != want {
			t.Fatalf("IsPlain(%+v) = %v", h, got)
		}
	}
}

func TestP23_5Insert(t *testing.T) {
	s := newSource(5)
	for i, c := range []struct{ rev, move, want int }{{3, 0, 0}, {3, 7, 7}, {0, 7, 0}, {0, 0, 0}, {-1, 5, 5}, {math.MaxInt, -1, -1}, {api.MaxId, api.MaxId, api.MaxId}} {
		for range 300 {
			h := s.head(2)
			want := h
			want.Marks.Ins, want.Marks.Move = c.rev, c.want
			if got := mark.Insert(h, c.rev, c.move); show(got) != show(want) || !isOrdered(got) {
				t.Fatalf("%d: Insert(%+v, %d, %d) = %+v; want %+v", i, h, c.rev, c.move, got, want)
			}
		}
	}
}

func TestP23_5Delete(t *testing.T) {
	del := func(l ...api.Del) api.Head { return head(prop(bold, 1), api.Marks{Ins: 4, Move: 1, Dels: l}) }
	full, over := del(dels(16)...), del(dels(17)...)
	almost := append(dels(15), api.Del{Rev: 30})
	for i, c := range []struct {
		h         api.Head
		rev, move int
		want      api.Head
		remains   bool
		e         api.Errno
	}{
		{del(), 5, 2, del(api.Del{Rev: 5, Move: 2}), true, api.OK}, {del(), 4, 2, api.Head{}, false, api.OK}, {del(), 0, 2, api.Head{}, false, api.OK}, {api.Head{}, 0, 0, api.Head{}, false, api.OK}, {del(), -5, 0, del(api.Del{Rev: -5}), true, api.OK}, {del(api.Del{Rev: 5}), 0, 0, api.Head{}, false, api.OK}, {api.Head{Marks: api.Marks{Ins: -5}}, -5, 0, api.Head{}, false, api.OK},
		{del(api.Del{Rev: 3, Move: 1}, api.Del{Rev: 6}), 5, 0, del(api.Del{Rev: 3, Move: 1}, api.Del{Rev: 5}, api.Del{Rev: 6}), true, api.OK}, {del(api.Del{Rev: 3}), 2, 9, del(api.Del{Rev: 2, Move: 9}, api.Del{Rev: 3}), true, api.OK}, {del(api.Del{Rev: 3}), 8, -9, del(api.Del{Rev: 3}, api.Del{Rev: 8, Move: -9}), true, api.OK},
		{del(api.Del{Rev: 3, Move: 1}), 3, 2, del(api.Del{Rev: 3, Move: 1}), true, api.OK}, {del(api.Del{Rev: 3}, api.Del{Rev: 4}), 4, 0, api.Head{}, false, api.OK}, {del(dels(15)...), 30, 0, del(almost...), true, api.OK},
		{full, 30, 0, api.Head{}, false, api.ErrLimit}, {full, -1, 0, api.Head{}, false, api.ErrLimit}, {full, 3, 9, full, true, api.OK}, {full, 16, 9, full, true, api.OK}, {full, 4, 0, api.Head{}, false, api.OK}, {full, 0, 0, api.Head{}, false, api.OK}, {over, 30, 0, api.Head{}, false, api.ErrLimit}, {over, 17, 0, over, true, api.OK},
	} {
		got, remains, e := mark.Delete(c.h, c.rev, c.move)
		if show(got) != show(c.want) || remains != c.remains || e != c.e {
			t.Errorf("%d: Delete(%+v, %d, %d) = %+v, %v, %d; want %+v, %v, %d", i, c.h, c.rev, c.move, got, remains, e, c.want, c.remains, c.e)
		}
	}
	s := newSource(6)
	for range 5000 {
		h, rev, move := s.head(2), s.rev(), s.IntN(3)
		got, remains, e := mark.Delete(h, rev, move)
		want, stays := h, rev != 0 && rev != h.Marks.Ins
		if stays && !slices.ContainsFunc(h.Marks.Dels, func(d api.Del) bool { return d.Rev == rev }) {
			want.Marks.Dels = append(slices.Clone(h.Marks.Dels), api.Del{Rev: rev, Move: move})
			slices.SortFunc(want.Marks.Dels, func(a, b api.Del) int { return map[bool]int{true: -1, false: 1}[a.Rev < b.Rev] })
		}
		if !stays {
			want = api.Head{}
		}
		if show(got) != show(want) || remains != stays || e != api.OK || !isOrdered(got) {
			t.Fatalf("Delete(%+v, %d, %d) = %+v, %v, %d; want %+v", h, rev, move, got, remains, e, want)
		}
	}
}
