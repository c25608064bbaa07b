package mark_test

import (
	"math"
	"slices"
	"testing"

	"obelus/api"
	"obelus/mark"
	"obelus/samples"
)

func TestP23_6Rules(t *testing.T) {
	const size = api.KeySize
	plain := head(prop(bold, 0), api.Marks{})
	own := head(prop(bold, 0), api.Marks{Ins: 4, Move: 2})
	above := head(prop(bold, 1), api.Marks{Ins: 4, Layers: []api.Layer{unset(3, bold)}})
	mine := head(prop(bold, 1), api.Marks{Layers: []api.Layer{layer(4, bold, 3), layer(5, bold, 0)}})
	same := head(prop(bold, 1), api.Marks{Layers: []api.Layer{layer(5, bold, 1)}})
	for i, c := range []struct {
		h     api.Head
		rev   int
		p     api.Prop
		clear bool
		want  api.Head
	}{
		// the first rule, also where others would apply
		{plain, 4, prop(bold, 0), false, plain}, {plain, 0, prop(bold, 0), false, plain}, {plain, 4, prop(size, 0), true, plain}, {plain, 4, prop(size, 7), true, plain}, {mine, 5, prop(bold, 1), false, mine}, {same, 5, prop(bold, 1), false, same}, {above, 4, prop(bold, 1), false, above}, {api.Head{}, 0, prop(bold, 3), true, api.Head{}},
		// the second one
		{plain, 0, prop(bold, 1), false, head(prop(bold, 1), api.Marks{})}, {plain, 0, prop(bold, 1), true, api.Head{}}, {own, 4, prop(bold, 1), false, head(prop(bold, 1), own.Marks)}, {own, 4, prop(bold, 1), true, api.Head{Marks: own.Marks}}, {above, 0, prop(bold, 7), false, head(prop(bold, 7), above.Marks)}, {above, 0, prop(bold, 0), true, api.Head{Marks: above.Marks}}, {same, 0, prop(bold, 0), true, api.Head{Marks: same.Marks}},
		{above, 4, prop(size, 7), false, api.Head{Props: []api.Prop{prop(bold, 1), prop(size, 7)}, Marks: above.Marks}}, {above, 4, prop(1, 7), false, api.Head{Props: []api.Prop{prop(1, 7), prop(bold, 1)}, Marks: above.Marks}},
		// the third one
		{mine, 5, prop(bold, 2), false, head(prop(bold, 2), mine.Marks)}, {mine, 5, prop(bold, 9), true, api.Head{Marks: mine.Marks}}, {mine, 5, prop(bold, 0), false, head(prop(bold, 0), api.Marks{Layers: mine.Marks.Layers[:1]})}, {above, 3, prop(bold, 1), true, api.Head{Marks: api.Marks{Ins: 4}}}, {above, 3, prop(bold, 0), false, head(prop(bold, 0), above.Marks)}, {same, 5, prop(bold, 2), false, head(prop(bold, 2), same.Marks)},
		{head(prop(bold, 1), api.Marks{Ins: 4, Layers: []api.Layer{layer(4, bold, 0)}}), 4, prop(bold, 0), false, head(prop(bold, 0), api.Marks{Ins: 4})},
		// the fourth one
		{plain, 4, prop(bold, 1), false, head(prop(bold, 1), api.Marks{Layers: []api.Layer{layer(4, bold, 0)}})}, {plain, 4, prop(bold, 5), true, api.Head{Marks: api.Marks{Layers: []api.Layer{layer(4, bold, 0)}}}}, {api.Head{}, 4, prop(bold, 0), false, head(prop(bold, 0), api.Marks{Layers: []api.Layer{unset(4, bold)}})}, {own, 5, prop(bold, 1), false, head(prop(bold, 1), api.Marks{Ins: 4, Move: 2, Layers: []api.Layer{layer(5, bold, 0)}})},
		{above, 4, prop(bold, 0), false, head(prop(bold, 0), api.Marks{Ins: 4, Layers: []api.Layer{unset(3, bold), layer(4, bold, 1)}})}, {mine, 4, prop(bold, 0), false, head(prop(bold, 0), api.Marks{Layers: []api.Layer{layer(4, bold, 3), layer(5, bold, 0), layer(4, bold, 1)}})}, {mine, -4, prop(bold, 3), false, head(prop(bold, 3), api.Marks{Layers: []api.Layer{layer(4, bold, 3), layer(5, bold, 0), layer(-4, bold, 1)}})},
		{mine, 6, prop(size, 3), false, api.Head{Props: []api.Prop{prop(bold, 1), prop(size, 3)}, Marks: api.Marks{Layers: append(slices.Clone(mine.Marks.Layers), unset(6, size))}}}, {mine, 6, prop(1, 3), false, api.Head{Props: []api.Prop{prop(1, 3), prop(bold, 1)}, Marks: api.Marks{Layers: append([]api.Layer{unset(6, 1)}, mine.Marks.Layers...)}}},
		{plain, 4, prop(math.MaxInt, math.MinInt), false, api.Head{Props: []api.Prop{prop(bold, 0), prop(math.MaxInt, math.MinInt)}, Marks: api.Marks{Layers: []api.Layer{unset(4, math.MaxInt)}}}},
	} {
		if got, e := mark.Set(c.h, c.rev, c.p, c.clear); show(got) != show(c.want) || e != api.OK {
			t.Errorf("%d: Set(%+v, %d, %v, %v) = %+v, %d; want %+v", i, c.h, c.rev, c.p, c.clear, got, e, c.want)
		}
	}
	once, _ := mark.Set(plain, 4, prop(bold, 1), false)
	if twice, e := mark.Set(once, 4, prop(bold, 0), false); show(twice) != show(plain) || e != api.OK {
		t.Errorf("the chapter's example is %+v, %d", twice, e)
	}
}

func TestP23_6Limit(t *testing.T) {
	layers := func(count int) (l []api.Layer) {
		for i := range count {
			l = append(l, layer(3, []int{bold, api.KeySize}[min(i*2/count, 1)], i))
		}
		return l
	}
	for i, c := range []struct {
		count, rev int
		p          api.Prop
		clear      bool
		want       api.Errno
	}{
		{63, 4, prop(bold, 90), false, api.OK}, {64, 4, prop(bold, 90), false, api.ErrLimit}, {64, 4, prop(api.KeySize, 90), false, api.ErrLimit}, {64, 4, prop(api.KeyFont, 90), false, api.ErrLimit}, {64, 4, prop(1, 0), false, api.ErrLimit}, {64, 4, prop(bold, 0), true, api.ErrLimit}, {65, 4, prop(bold, 90), false, api.ErrLimit}, {63, 4, prop(1, 0), false, api.OK}, {70, 4, prop(1, 0), false, api.ErrLimit},
		{64, 4, prop(bold, 1), false, api.OK}, {64, 4, prop(api.KeyFont, 5), true, api.OK}, {64, 0, prop(bold, 90), false, api.OK}, {64, 3, prop(bold, 90), false, api.OK}, {64, 3, prop(bold, 31), false, api.OK}, {64, 5, prop(api.KeyFont, 90), false, api.OK}, {64, 5, prop(bold, 90), false, api.ErrLimit}, {64, 3, prop(api.KeyFont, 90), false, api.ErrLimit}, {70, 0, prop(1, 9), false, api.OK}, {70, 3, prop(bold, 0), true, api.OK},
	} {
		h := head(prop(bold, 1), api.Marks{Ins: 5, Layers: layers(c.count)})
		got, e := mark.Set(h, c.rev, c.p, c.clear)
		want, naive := naiveSet(h, c.rev, c.p, c.clear)
		if e != c.want || naive != c.want || show(got) != show(want) {
			t.Errorf("%d: Set = %+v, %d; want %+v, %d or %d", i, got, e, want, c.want, naive)
		}
	}
}

func TestP23_6Many(t *testing.T) {
	s := newSource(7)
	counts := make(map[int]int)
	for range 20000 {
		h, rev, clear := s.head(3), s.rev(), s.IntN(3) == 0
		p := prop(append(keys(), -2, 22)[s.IntN(9)], s.value())
		got, e := mark.Set(h, rev, p, clear)
		want, failure := naiveSet(h, rev, p, clear)
		if show(got) != show(want) || e != failure || !isOrdered(got) {
			t.Fatalf("Set(%+v, %d, %v, %v) = %+v, %d; want %+v, %d", h, rev, p, clear, got, e, want, failure)
		}
		counts[len(got.Marks.Layers)-len(h.Marks.Layers)]++
	}
	if counts[-1] < 50 || counts[0] < 2000 || counts[1] < 5000 {
		t.Errorf("the numbers of layers changed by %v", counts)
	}
}

// TestP23_6Typing makes all short series of changes by three revisions, one of which inserted the element.
func TestP23_6Typing(t *testing.T) {
	var follow func(h api.Head, count int)
	follow = func(h api.Head, count int) {
		for rev := range 4 {
			for value := -1; value < 2; value++ {
				p := prop(bold, value)
				got, e := mark.Set(h, rev, p, value < 0)
				if want, _ := naiveSet(h, rev, p, value < 0); show(got) != show(want) || e != api.OK {
					t.Fatalf("Set(%+v, %d, %v) = %+v, %d; want %+v", h, rev, p, got, e, want)
				}
				if count > 1 {
					follow(got, count-1)
				}
			}
		}
	}
	follow(api.Head{Marks: api.Marks{Ins: 1}}, 4)
}

func TestP23_7BaseAndLayers(t *testing.T) {
	h := api.Head{Props: []api.Prop{prop(1, 9), prop(bold, 3), prop(api.KeySize, 28)}, Marks: api.Marks{Layers: []api.Layer{unset(4, bold), layer(3, bold, 5), layer(4, bold, 2), layer(1, api.KeyFont, 7)}}}
	for i, c := range []struct {
		key, value int
		has        bool
		from, to   int
	}{{1, 9, true, 0, 0}, {bold, 0, false, 0, 3}, {api.KeySize, 28, true, 0, 0}, {api.KeyFont, 7, true, 3, 4}, {3, 0, false, 0, 0}, {math.MaxInt, 0, false, 0, 0}, {math.MinInt, 0, false, 0, 0}} {
		if value, has := mark.Base(h, c.key); value != c.value || has != c.has {
			t.Errorf("%d: Base(%d) = %d, %v", i, c.key, value, has)
		}
		if got := mark.Layers(h, c.key); show(got) != show(h.Marks.Layers[c.from:c.to]) {
			t.Errorf("%d: Layers(%d) = %+v", i, c.key, got)
		}
	}
	s := newSource(8)
	for range 4000 {
		h := s.head(3)
		for _, key := range keysOf(h) {
			all := historyOf(h, key)
			if value, has := mark.Base(h, key); (state{value, has}) != all.states[0] {
				t.Fatalf("Base(%+v, %d) = %d, %v", h, key, value, has)
			}
			var want []api.Layer
			for i, rev := range all.revs {
				want = append(want, api.Layer{Rev: rev, Key: key, Before: all.states[i].value, Had: all.states[i].has})
			}
			if got := mark.Layers(h, key); show(got) != show(want) {
				t.Fatalf("Layers(%+v, %d) = %+v; want %+v", h, key, got, want)
			}
		}
	}
}

func TestP23_8Revs(t *testing.T) {
	for i, c := range []struct {
		m    api.Marks
		want []int
	}{
		{api.Marks{}, nil}, {api.Marks{Ins: 3, Move: 7}, []int{3}}, {api.Marks{Ins: -3}, []int{-3}}, {api.Marks{Dels: []api.Del{{Rev: 2, Move: 7}, {Rev: 9}}}, []int{2, 9}}, {api.Marks{Layers: []api.Layer{unset(9, 1), unset(2, 1), layer(9, 4, 6)}}, []int{2, 9}},
		{api.Marks{Ins: 5, Dels: []api.Del{{Rev: 5}, {Rev: 8}}, Layers: []api.Layer{unset(8, 2), unset(1, 3)}}, []int{1, 5, 8}}, {api.Marks{Dels: []api.Del{{Rev: 0}}}, []int{0}}, {api.Marks{Layers: []api.Layer{unset(0, 7)}}, []int{0}},
	} {
		h := api.Head{Props: []api.Prop{prop(6, 7)}, Marks: c.m}
		if got := mark.Revs(h); !slices.Equal(got, c.want) {
			t.Errorf("%d: Revs = %v; want %v", i, got, c.want)
		}
		for rev := -4; rev < 12; rev++ {
			if got := mark.Uses(h, rev); got != slices.Contains(c.want, rev) {
				t.Errorf("%d: Uses(%d) = %v", i, rev, got)
			}
		}
	}
	s := newSource(9)
	for range 4000 {
		h := s.head(2)
		want := naiveRevs(h)
		if got := mark.Revs(h); !slices.Equal(got, want) {
			t.Fatalf("Revs(%+v) = %v; want %v", h, got, want)
		}
		for _, rev := range append(samples.Numbers(), revs()...) {
			if got := mark.Uses(h, rev); got != slices.Contains(want, rev) {
				t.Fatalf("Uses(%+v, %d) = %v", h, rev, got)
			}
		}
	}
}

// decideBoth decides about a head twice.
func decideBoth(h api.Head, a, b api.Decision) (api.Head, bool) {
	h, remains := mark.Decide(h, a)
	if !remains {
		return h, false
	}
	return mark.Decide(h, b)
}

func TestP23_9Decisions(t *testing.T) {
	s := newSource(10)
	united, left := 0, 0
	for range 20000 {
		h, a, b := s.head(4), s.decision(), s.decision()
		both, e := mark.Union(a, b)
		if e != api.OK {
			continue
		}
		united++
		want, is := mark.Decide(h, both)
		if got, remains := decideBoth(h, a, b); show(got) != show(want) || remains != is {
			t.Fatalf("%v and then %v make of %+v %+v, %v; both make %+v, %v", a, b, h, got, remains, want, is)
		}
		if got, remains := decideBoth(h, b, a); show(got) != show(want) || remains != is {
			t.Fatalf("%v and then %v make of %+v %+v, %v; both make %+v, %v", b, a, h, got, remains, want, is)
		}
		for _, rev := range mark.Revs(want) {
			if slices.Contains(both.Accept, rev) || slices.Contains(both.Reject, rev) {
				t.Fatalf("Decide(%+v, %v) = %+v, which uses %d", h, both, want, rev)
			}
			left++
		}
		for _, f := range []func(api.Head) (api.Head, bool){mark.Original, mark.Final} {
			if got, _ := f(h); !mark.IsPlain(got) {
				t.Fatalf("a view of %+v is %+v", h, got)
			}
		}
	}
	if united < 3000 || left < 1000 {
		t.Errorf("%d decisions were united, %d revisions left", united, left)
	}
}

func TestP23_9Marks(t *testing.T) {
	s := newSource(11)
	for range 10000 {
		h, rev, move := s.head(3), s.rev(), s.IntN(3)
		original, existed := mark.Original(h)
		inserted := mark.Insert(h, rev, move)
		if _, remains := mark.Original(inserted); remains != (rev == 0) {
			t.Fatalf("Original of %+v remains: %v", inserted, remains)
		}
		plain := mark.Plain(h)
		if final, remains := mark.Final(mark.Insert(plain, rev, move)); show(final) != show(plain) || !remains {
			t.Fatalf("Final of the insertion of %+v by %d = %+v, %v", plain, rev, final, remains)
		}
		deleted, remains, e := mark.Delete(h, rev, move)
		if got, is := mark.Original(deleted); remains && (e != api.OK || show(got) != show(original) || is != existed || mark.Visible(deleted)) || !remains && rev != 0 && existed {
			t.Fatalf("Delete(%+v, %d) = %+v, %v, %d", h, rev, deleted, remains, e)
		}
		p, clear := prop(keys()[s.IntN(7)], s.value()), s.IntN(3) == 0
		set, e := mark.Set(h, rev, p, clear)
		if got, is := mark.Original(set); e != api.OK || is != existed || rev != 0 && show(got) != show(original) || rev != 0 && h.Marks.Ins == rev && is {
			t.Fatalf("Set(%+v, %d, %v) = %+v, %d, whose original is %+v, %v", h, rev, p, set, e, got, is)
		}
		to := state{p.Value, true}
		if clear {
			to = state{}
		}
		if final, remains := mark.Final(set); remains != mark.Visible(h) || remains && historyOf(final, p.Key).states[0] != to {
			t.Fatalf("Set(%+v, %d, %v) = %+v, whose final view is %+v", h, rev, p, set, final)
		}
	}
}

// TestP23_9Memory checks that arguments are not changed, and that results are new.
func TestP23_9Memory(t *testing.T) {
	s := newSource(12)
	for range 3000 {
		h, a, b := s.head(3), s.decision(), s.decision()
		if s.IntN(4) == 0 {
			h = s.wild()
		}
		p := prop(keys()[s.IntN(7)], s.value())
		before := full(h) + show(a) + show(b)
		united, _ := mark.Union(a, b)
		same, _ := mark.Union(a, api.Decision{})
		decided, _ := mark.Decide(h, a)
		kept, _ := mark.Decide(h, api.Decision{})
		original, _ := mark.Original(h)
		final, _ := mark.Final(h)
		deleted, _, _ := mark.Delete(h, s.rev(), 0)
		again, _, _ := mark.Delete(h, 3, 0)
		set, _ := mark.Set(h, s.rev(), p, false)
		other, _ := mark.Set(h, 0, p, true)
		if !samples.Apart(h, a, b, united, same, decided, kept, original, final, deleted, again, set, other, mark.Plain(h), mark.Insert(h, 1, 2), mark.Layers(h, p.Key), mark.Layers(h, bold), mark.Revs(h)) {
			t.Fatalf("%+v: results share memory", h)
		}
		if after := full(h) + show(a) + show(b); after != before {
			t.Fatalf("%s was changed to %s", before, after)
		}
	}
}
