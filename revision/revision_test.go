package revision_test

import (
	"math"
	"slices"
	"strings"
	"testing"

	"obelus/api"
	"obelus/revision"
	"obelus/samples"
)

func TestP1AllArguments(t *testing.T) {
	s := newSource(1)
	numbers := append(samples.Numbers(), api.MaxId)
	for range 3000 {
		l, other, f := s.any(), s.any(), s.filter()
		id := numbers[s.IntN(len(numbers))]
		r := api.Rev{}
		if len(other) > 0 {
			r = other[s.IntN(len(other))]
		}
		if got, found := revision.Find(l, id); !found && got != (api.Rev{}) {
			t.Fatalf("Find(%+v, %d) = %+v", l, id, got)
		}
		if got, e := revision.Add(l, r); e != api.OK && len(got) > 0 {
			t.Fatalf("Add(%+v, %+v) = %+v, %d", l, r, got, e)
		}
		if got, e := revision.Fresh(l); e != api.OK && got != 0 {
			t.Fatalf("Fresh(%+v) = %d, %d", l, got, e)
		}
		if got, e := revision.Merge(l, other); e != api.OK && len(got) > 0 {
			t.Fatalf("Merge(%+v, %+v) = %+v, %d", l, other, got, e)
		}
		revision.Remove(l, append(ids(other), id))
		revision.Select(l, f)
		revision.Chronological(l)
		revision.ByAuthor(l)
		revision.Accept(l, f)
		revision.Reject(l, f)
	}
	if got, e := revision.Fresh(nil); got != 1 || e != api.OK {
		t.Errorf("Fresh of the empty table = %d, %d", got, e)
	}
}

func TestP22_1CheckRev(t *testing.T) {
	long := strings.Repeat("a", 39)
	for i, c := range []struct {
		r    api.Rev
		want api.Errno
	}{
		{rev(1, "a", 0), api.OK}, {rev(api.MaxId, "a", api.MaxTime), api.OK}, {rev(0, "a", 0), api.ErrId}, {rev(-1, "a", 0), api.ErrId}, {rev(api.MaxId+1, "a", 0), api.ErrId}, {rev(math.MinInt, "a", 0), api.ErrId}, {rev(math.MaxInt, "a", 0), api.ErrId},
		{rev(1, "", 0), api.ErrEmpty}, {rev(1, long+"b", 0), api.OK}, {rev(1, long+"bc", 0), api.ErrLong}, {rev(1, long+"\u00e9", 0), api.ErrLong}, {rev(1, long[1:]+"\u00e9", 0), api.OK}, {rev(1, long+"\xFF", 0), api.ErrUTF8}, {rev(1, long+"b\xFF", 0), api.ErrLong},
		{rev(1, "\xFF", 0), api.ErrUTF8}, {rev(1, "a\xC3", 0), api.ErrUTF8}, {rev(1, "\xED\xA0\x80", 0), api.ErrUTF8}, {rev(1, "\xC0\x80", 0), api.ErrUTF8}, {rev(1, "\x00", 0), api.OK}, {rev(1, "\uFFFD", 0), api.OK}, {rev(1, " ", 0), api.OK},
		{rev(1, "a", -1), api.ErrTime}, {rev(1, "a", api.MaxTime+1), api.ErrTime}, {rev(1, "a", math.MinInt), api.ErrTime}, {rev(1, "a", math.MaxInt), api.ErrTime},
		{rev(0, "", -1), api.ErrId}, {rev(0, "\xFF", 0), api.ErrId}, {rev(0, "a", -1), api.ErrId}, {rev(0, long+"bc", 0), api.ErrId}, {rev(1, "", -1), api.ErrEmpty}, {rev(1, long+"bc", -1), api.ErrLong}, {rev(1, "\xFF", -1), api.ErrUTF8}, {api.Rev{}, api.ErrId},
	} {
		if e := revision.CheckRev(c.r); e != c.want {
			t.Errorf("%d: CheckRev(%+v) = %d; want %d", i, c.r, e, c.want)
		}
		if e := revision.Check([]api.Rev{c.r}); e != c.want {
			t.Errorf("%d: Check(%+v) = %d; want %d", i, c.r, e, c.want)
		}
	}
}

func TestP22_1Check(t *testing.T) {
	a, b, none := rev(1, "a", 5), rev(2, "b", 3), rev(1, "", 0)
	for i, c := range []struct {
		l    []api.Rev
		want api.Errno
	}{
		{nil, api.OK}, {[]api.Rev{a, b}, api.OK}, {[]api.Rev{a, rev(api.MaxId, "a", 0)}, api.OK}, {[]api.Rev{a, a}, api.ErrDuplicate}, {[]api.Rev{a, rev(1, "b", 0)}, api.ErrDuplicate}, {[]api.Rev{b, a}, api.ErrOrder}, {[]api.Rev{a, b, a}, api.ErrOrder},
		{[]api.Rev{a, none}, api.ErrEmpty}, {[]api.Rev{b, none}, api.ErrEmpty}, {[]api.Rev{none, none}, api.ErrEmpty}, {[]api.Rev{rev(0, "a", 0), rev(0, "a", 0)}, api.ErrId}, {[]api.Rev{a, rev(0, "a", 0)}, api.ErrId}, {[]api.Rev{a, a, none}, api.ErrDuplicate}, {[]api.Rev{b, a, none}, api.ErrOrder}, {[]api.Rev{a, rev(1, "b", -1)}, api.ErrTime},
		{table(256), api.OK}, {table(257), api.ErrLimit}, {make([]api.Rev, 256), api.ErrId}, {make([]api.Rev, 257), api.ErrLimit},
	} {
		if e := revision.Check(c.l); e != c.want {
			t.Errorf("%d: Check(%+v) = %d; want %d", i, c.l, e, c.want)
		}
	}
	s := newSource(2)
	errors := make(map[api.Errno]int)
	for range 8000 {
		l := s.any()
		e := revision.Check(l)
		if want := naiveCheck(l); e != want {
			t.Fatalf("Check(%+v) = %d; want %d", l, e, want)
		}
		errors[e]++
		for _, r := range l {
			if e := revision.CheckRev(r); e != naiveCheckRev(r) {
				t.Fatalf("CheckRev(%+v) = %d; want %d", r, e, naiveCheckRev(r))
			}
		}
	}
	for _, e := range []api.Errno{api.OK, api.ErrId, api.ErrEmpty, api.ErrLong, api.ErrUTF8, api.ErrTime, api.ErrDuplicate, api.ErrOrder} {
		if errors[e] < 50 {
			t.Errorf("the errors are %v", errors)
		}
	}
}

func TestP22_2Find(t *testing.T) {
	big := table(300)
	big[270] = rev(5, "b", 0)
	for i, c := range []struct {
		l    []api.Rev
		id   int
		want api.Rev
	}{
		{nil, 1, api.Rev{}}, {example(), 2, rev(2, "Ann", 10)}, {example(), 5, rev(5, "Bob", 7)}, {example(), 9, rev(9, "Ann", 3)}, {example(), 3, api.Rev{}}, {example(), 1, api.Rev{}}, {example(), 10, api.Rev{}}, {example(), math.MinInt, api.Rev{}},
		{[]api.Rev{rev(3, "a", 1), rev(1, "b", 2), rev(3, "c", 3), rev(1, "d", 4)}, 1, rev(1, "b", 2)}, {[]api.Rev{rev(3, "a", 1), rev(1, "b", 2), rev(3, "c", 3)}, 3, rev(3, "a", 1)}, {[]api.Rev{rev(1, "a", 1), rev(1, "b", 1), rev(1, "c", 1)}, 1, rev(1, "a", 1)},
		{[]api.Rev{rev(-4, "", -1)}, -4, rev(-4, "", -1)}, {big, 5, rev(5, "a", 0)}, {big, 300, rev(300, "a", 0)}, {big, 271, api.Rev{}},
	} {
		if got, found := revision.Find(c.l, c.id); got != c.want || found != (c.want != api.Rev{}) {
			t.Errorf("%d: Find(%d) = %+v, %v; want %+v", i, c.id, got, found, c.want)
		}
	}
	if got, found := revision.Find([]api.Rev{{}}, 0); got != (api.Rev{}) || !found {
		t.Errorf("Find of an empty revision = %+v, %v", got, found)
	}
	s := newSource(3)
	for range 4000 {
		l := s.any()
		for id := -2; id < 12; id++ {
			i := slices.Index(ids(l), id)
			var want api.Rev
			if i >= 0 {
				want = l[i]
			}
			if got, found := revision.Find(l, id); got != want || found != (i >= 0) {
				t.Fatalf("Find(%+v, %d) = %+v, %v; want %+v", l, id, got, found, want)
			}
		}
	}
}

func TestP22_2Remove(t *testing.T) {
	twice := []api.Rev{rev(3, "a", 1), rev(1, "b", 2), rev(3, "c", 3), {}}
	for i, c := range []struct {
		l    []api.Rev
		ids  []int
		want []api.Rev
	}{
		{nil, nil, nil}, {nil, []int{1}, nil}, {example(), nil, example()}, {example(), []int{5}, []api.Rev{rev(2, "Ann", 10), rev(9, "Ann", 3)}}, {example(), []int{9, 9, 2, 4}, []api.Rev{rev(5, "Bob", 7)}}, {example(), []int{2, 5, 9}, nil}, {example(), []int{1, 3, -1}, example()},
		{twice, []int{3}, []api.Rev{rev(1, "b", 2), {}}}, {twice, []int{0, 1}, []api.Rev{rev(3, "a", 1), rev(3, "c", 3)}}, {twice, []int{}, twice},
	} {
		if got := revision.Remove(c.l, c.ids); show(got) != show(c.want) {
			t.Errorf("%d: Remove(%+v, %v) = %+v; want %+v", i, c.l, c.ids, got, c.want)
		}
	}
	s := newSource(4)
	for range 3000 {
		l, gone := s.any(), ids(s.any())
		var want []api.Rev
		for _, r := range l {
			if !slices.Contains(gone, r.Id) {
				want = append(want, r)
			}
		}
		if got := revision.Remove(l, gone); show(got) != show(want) {
			t.Fatalf("Remove(%+v, %v) = %+v; want %+v", l, gone, got, want)
		}
	}
}

func TestP22_3Add(t *testing.T) {
	for i, c := range []struct {
		l    []api.Rev
		r    api.Rev
		want api.Errno
	}{
		{nil, rev(1, "a", 0), api.OK}, {example(), rev(1, "a", 0), api.OK}, {example(), rev(7, "a", 0), api.OK}, {example(), rev(api.MaxId, "a", 0), api.OK}, {table(255), rev(256, "a", 0), api.OK}, {table(256)[1:], rev(1, "a", 0), api.OK},
		{table(256), rev(257, "a", 0), api.ErrLimit}, {table(256), rev(256, "a", 0), api.ErrDuplicate}, {table(256), rev(3, "b", 9), api.ErrDuplicate}, {table(256), rev(0, "a", 0), api.ErrId}, {table(257), rev(0, "a", 0), api.ErrLimit}, {table(257), rev(3, "", 0), api.ErrLimit},
		{example(), rev(5, "a", 0), api.ErrDuplicate}, {example(), rev(5, "Bob", 7), api.ErrDuplicate}, {example(), rev(5, "", 7), api.ErrEmpty}, {example(), rev(4, "a", -7), api.ErrTime}, {[]api.Rev{rev(2, "a", 0), rev(1, "a", 0)}, rev(0, "", 0), api.ErrOrder}, {[]api.Rev{rev(2, "a", 0), rev(2, "a", 0)}, rev(2, "\xFF", 0), api.ErrDuplicate}, {[]api.Rev{{}}, rev(2, "\xFF", 0), api.ErrId},
	} {
		got, e := revision.Add(c.l, c.r)
		want, _ := naiveAdd(c.l, c.r)
		if e != c.want || show(got) != show(want) {
			t.Errorf("%d: Add(%+v, %+v) = %+v, %d; want %+v, %d", i, c.l, c.r, got, e, want, c.want)
		}
	}
	s := newSource(5)
	errors := make(map[api.Errno]int)
	for range 6000 {
		l, others := s.any(), append(s.any(), rev(1+s.IntN(20), "x", 0))
		r := others[s.IntN(len(others))]
		got, e := revision.Add(l, r)
		want, failure := naiveAdd(l, r)
		if show(got) != show(want) || e != failure {
			t.Fatalf("Add(%+v, %+v) = %+v, %d; want %+v, %d", l, r, got, e, want, failure)
		}
		errors[e]++
	}
	if errors[api.OK] < 500 || errors[api.ErrDuplicate] < 500 || errors[api.ErrId] < 50 {
		t.Errorf("the errors are %v", errors)
	}
}

func TestP22_3Fresh(t *testing.T) {
	for i, c := range []struct {
		l    []api.Rev
		want int
		e    api.Errno
	}{
		{nil, 1, api.OK}, {example(), 10, api.OK}, {table(256), 257, api.OK}, {table(257), 0, api.ErrLimit}, {[]api.Rev{rev(api.MaxId-1, "a", 0)}, api.MaxId, api.OK}, {[]api.Rev{rev(1, "a", 0), rev(api.MaxId, "a", 0)}, 0, api.ErrLimit},
		{[]api.Rev{rev(api.MaxId, "a", 0), rev(1, "a", 0)}, 0, api.ErrOrder}, {[]api.Rev{rev(3, "a", 0), rev(3, "a", 0)}, 0, api.ErrDuplicate}, {[]api.Rev{rev(api.MaxId, "", 0)}, 0, api.ErrEmpty}, {[]api.Rev{{}}, 0, api.ErrId},
	} {
		if got, e := revision.Fresh(c.l); got != c.want || e != c.e {
			t.Errorf("%d: Fresh(%+v) = %d, %d; want %d, %d", i, c.l, got, e, c.want, c.e)
		}
	}
	s := newSource(6)
	for range 2000 {
		l := s.any()
		want, failure := 0, naiveCheck(l)
		for _, id := range append(ids(l), 0) {
			want = max(want, id+1)
		}
		if failure == api.OK && want > api.MaxId {
			failure = api.ErrLimit
		}
		if failure != api.OK {
			want = 0
		}
		if got, e := revision.Fresh(l); got != want || e != failure {
			t.Fatalf("Fresh(%+v) = %d, %d; want %d, %d", l, got, e, want, failure)
		}
	}
}

func TestP22_4Merge(t *testing.T) {
	other := []api.Rev{rev(2, "Ann", 10), rev(3, "Cyd", 0), rev(9, "Ann", 3), rev(11, "Cyd", 0)}
	wrong := [][]api.Rev{{rev(0, "a", 0)}, {rev(1, "", 0)}, {rev(2, "a", 0), rev(1, "a", 0)}, {rev(2, "a", 0), rev(2, "a", 0)}, table(257)}
	high := table(300)[256:]
	for i, c := range []struct {
		a, b []api.Rev
		want api.Errno
	}{
		{nil, nil, api.OK}, {example(), nil, api.OK}, {example(), example(), api.OK}, {example(), other, api.OK}, {example(), example()[1:], api.OK}, {table(256), table(256), api.OK}, {table(256), table(7), api.OK}, {table(212), high, api.OK}, {table(213), high, api.ErrLimit}, {table(256), table(257)[256:], api.ErrLimit},
		{example()[:2], []api.Rev{rev(5, "Bob", 8)}, api.ErrConflict}, {example(), []api.Rev{rev(9, "ann", 3)}, api.ErrConflict}, {table(256), append(slices.Clone(high), rev(301, "a", 0))[1:], api.ErrLimit}, {table(256), append([]api.Rev{rev(1, "b", 0)}, high...), api.ErrConflict}, {table(256), append([]api.Rev{rev(256, "a", 1)}, high...), api.ErrConflict},
		{wrong[0], wrong[1], api.ErrId}, {wrong[1], wrong[0], api.ErrEmpty}, {wrong[2], wrong[3], api.ErrOrder}, {wrong[3], wrong[4], api.ErrDuplicate}, {wrong[4], wrong[0], api.ErrLimit}, {nil, wrong[4], api.ErrLimit}, {example(), wrong[3], api.ErrDuplicate}, {[]api.Rev{rev(2, "b", 0)}, wrong[2], api.ErrOrder},
	} {
		want, _ := naiveMerge(c.a, c.b)
		if got, e := revision.Merge(c.a, c.b); e != c.want || show(got) != show(want) {
			t.Errorf("%d: Merge = %+v, %d; want %+v, %d", i, got, e, want, c.want)
		}
	}
	s := newSource(7)
	errors := make(map[api.Errno]int)
	for range 6000 {
		a, b := s.table(), s.table()
		if s.IntN(4) == 0 {
			a, b = s.any(), s.any()
		}
		got, e := revision.Merge(a, b)
		want, failure := naiveMerge(a, b)
		if show(got) != show(want) || e != failure {
			t.Fatalf("Merge(%+v, %+v) = %+v, %d; want %+v, %d", a, b, got, e, want, failure)
		}
		errors[e]++
	}
	if errors[api.OK] < 2000 || errors[api.ErrConflict] < 300 || errors[api.ErrOrder] < 50 {
		t.Errorf("the errors are %v", errors)
	}
}

func TestP22_5Select(t *testing.T) {
	ann, both := []string{"Ann"}, []string{"Bob", "Ann"}
	twice := []api.Rev{rev(9, "a", 1), rev(2, "a", 2), rev(9, "b", 3), rev(-3, "", -5), rev(2, "b", 4)}
	for i, c := range []struct {
		l    []api.Rev
		f    revision.Filter
		want []int
	}{
		{nil, revision.Filter{}, nil}, {example(), revision.Filter{}, []int{2, 5, 9}}, {example(), revision.Filter{Authors: ann, From: 5}, []int{2}}, {example(), revision.Filter{Authors: ann}, []int{2, 9}}, {example(), revision.Filter{Authors: both}, []int{2, 5, 9}}, {example(), revision.Filter{Authors: []string{"ann"}}, nil}, {example(), revision.Filter{Authors: []string{""}}, nil},
		{example(), revision.Filter{From: 7}, []int{2, 5}}, {example(), revision.Filter{From: 8}, []int{2}}, {example(), revision.Filter{From: 11}, nil}, {example(), revision.Filter{From: -1}, []int{2, 5, 9}}, {example(), revision.Filter{To: 7}, []int{5, 9}}, {example(), revision.Filter{To: 6}, []int{9}}, {example(), revision.Filter{To: -1}, nil}, {example(), revision.Filter{From: 3, To: 3}, []int{9}}, {example(), revision.Filter{From: 8, To: 3}, nil},
		{example(), revision.Filter{Ids: []int{9, 5, 9, 4}}, []int{5, 9}}, {example(), revision.Filter{Ids: []int{0}}, nil}, {example(), revision.Filter{Authors: both[:1], Ids: []int{2, 9}}, nil}, {example(), revision.Filter{Authors: both, From: 4, To: 9, Ids: []int{2, 5}}, []int{5}}, {example(), revision.Filter{Authors: []string{}, Ids: []int{}}, []int{2, 5, 9}},
		{twice, revision.Filter{}, []int{2, 9}}, {twice, revision.Filter{From: -5}, []int{-3, 2, 9}}, {twice, revision.Filter{From: 3}, []int{2, 9}}, {twice, revision.Filter{To: 1, From: -9}, []int{-3, 9}}, {twice, revision.Filter{Authors: []string{"a"}, From: 3}, nil}, {twice, revision.Filter{From: math.MinInt, To: math.MinInt}, nil}, {twice, revision.Filter{Authors: []string{""}, From: math.MinInt}, []int{-3}},
		{[]api.Rev{rev(1, "a", 0), rev(2, "a", 1)}, revision.Filter{To: 0}, []int{1, 2}}, {[]api.Rev{rev(1, "a", 0), rev(2, "a", 1)}, revision.Filter{From: 0, To: 1}, []int{1, 2}},
	} {
		if got := revision.Select(c.l, c.f); show(got) != show(c.want) || show(naiveSelect(c.l, c.f)) != show(c.want) {
			t.Errorf("%d: Select(%+v, %+v) = %v or %v; want %v", i, c.l, c.f, got, naiveSelect(c.l, c.f), c.want)
		}
		if got := revision.Accept(c.l, c.f); show(got) != show(api.Decision{Accept: c.want}) {
			t.Errorf("%d: Accept = %v", i, got)
		}
		if got := revision.Reject(c.l, c.f); show(got) != show(api.Decision{Reject: c.want}) {
			t.Errorf("%d: Reject = %v", i, got)
		}
	}
	s := newSource(8)
	some, none := 0, 0
	for range 10000 {
		l, f := s.any(), s.filter()
		want := naiveSelect(l, f)
		if got := revision.Select(l, f); show(got) != show(want) {
			t.Fatalf("Select(%+v, %+v) = %v; want %v", l, f, got, want)
		}
		if len(want) > 0 && len(want) < len(l) {
			some++
		} else if len(want) == 0 && len(l) > 0 {
			none++
		}
	}
	if some < 2000 || none < 1000 {
		t.Errorf("%d filters select some, %d none", some, none)
	}
}

func TestP22_6Chronological(t *testing.T) {
	if got := revision.Chronological(example()); !slices.Equal(ids(got), []int{9, 5, 2}) {
		t.Errorf("the chapter's example is %+v", got)
	}
	equal := []api.Rev{rev(2, "a", 5), rev(1, "b", 5), rev(2, "b", 5), rev(1, "a", 5), rev(9, "c", 4), rev(3, "c", math.MinInt), rev(0, "c", math.MaxInt)}
	if got, want := revision.Chronological(equal), []api.Rev{equal[5], equal[4], equal[1], equal[3], equal[0], equal[2], equal[6]}; !slices.Equal(got, want) {
		t.Errorf("Chronological = %+v; want %+v", got, want)
	}
	s := newSource(9)
	for range 4000 {
		l := s.any()
		want := naiveSort(l, func(a, b api.Rev) bool { return a.Time < b.Time || a.Time == b.Time && a.Id < b.Id })
		if got := revision.Chronological(l); show(got) != show(want) {
			t.Fatalf("Chronological(%+v) = %+v; want %+v", l, got, want)
		}
	}
}

func TestP22_6ByAuthor(t *testing.T) {
	ann, bob := revision.Group{Author: "Ann", Count: 2, First: 3, Last: 10}, revision.Group{Author: "Bob", Count: 1, First: 7, Last: 7}
	if got := revision.ByAuthor(example()); !slices.Equal(got, []revision.Group{ann, bob}) {
		t.Errorf("the chapter's example has the groups %+v", got)
	}
	bytewise := []api.Rev{rev(1, "b", 1), rev(1, "\u00e9", -5), rev(1, "B", 0), rev(1, "\xFF", 2), rev(1, "", 3), rev(1, "\xFF", -2), rev(1, "bb", 2), rev(1, "\xFF", 0)}
	var order []string
	groups := revision.ByAuthor(bytewise)
	for _, g := range groups {
		order = append(order, g.Author)
	}
	if want := []string{"", "B", "b", "bb", "\u00e9", "\xFF"}; !slices.Equal(order, want) {
		t.Errorf("the order is %q; want %q", order, want)
	} else if last := groups[5]; last != (revision.Group{Author: "\xFF", Count: 3, First: -2, Last: 2}) || groups[4].Last != -5 {
		t.Errorf("the groups are %+v", groups)
	}
	if got := revision.ByAuthor(nil); len(got) > 0 {
		t.Errorf("the empty table has the groups %+v", got)
	}
	s := newSource(10)
	for range 4000 {
		l := s.any()
		if got, want := revision.ByAuthor(l), naiveGroups(l); show(got) != show(want) {
			t.Fatalf("ByAuthor(%+v) = %+v; want %+v", l, got, want)
		}
	}
}

func TestP22_7Consequences(t *testing.T) {
	s := newSource(11)
	added, merged := 0, 0
	for range 4000 {
		a, b, f := s.table(), s.table(), s.filter()
		r := rev(1+s.IntN(30), "x", s.IntN(9))
		if l, e := revision.Add(a, r); e == api.OK {
			added++
			if revision.Check(l) != api.OK || show(revision.Remove(l, []int{r.Id})) != show(a) {
				t.Fatalf("Remove does not undo Add(%+v, %+v)", a, r)
			}
		}
		ab, e := revision.Merge(a, b)
		ba, g := revision.Merge(b, a)
		if show(ab) != show(ba) || e != g {
			t.Fatalf("Merge(%+v, %+v) = %+v, %d, but %+v, %d", a, b, ab, e, ba, g)
		}
		if e == api.OK {
			merged++
			if e := revision.Check(ab); e != api.OK {
				t.Fatalf("Merge(%+v, %+v) = %+v with the error %d", a, b, ab, e)
			}
		}
		if aa, e := revision.Merge(a, a); show(aa) != show(a) || e != api.OK {
			t.Fatalf("Merge(%+v) with itself = %+v, %d", a, aa, e)
		}
		accept, reject := revision.Accept(a, f), revision.Reject(a, f)
		if show(accept.Accept) != show(reject.Reject) || len(accept.Reject)+len(reject.Accept) > 0 || show(accept.Accept) != show(revision.Select(a, f)) {
			t.Fatalf("Accept = %v, Reject = %v", accept, reject)
		}
	}
	if added < 1000 || merged < 1000 {
		t.Errorf("%d were added, %d merged", added, merged)
	}
}

// TestP22_7Memory checks that arguments are not changed, and that results are new.
func TestP22_7Memory(t *testing.T) {
	s := newSource(12)
	for range 2000 {
		a, b, f := s.any(), s.any(), s.filter()
		if s.IntN(2) == 0 {
			a, b = s.table(), s.table()
		}
		state := func() string { return full(a) + full(b) + show(f.Authors[:cap(f.Authors)]) + show(f.Ids[:cap(f.Ids)]) }
		before := state()
		added, _ := revision.Add(a, rev(1+s.IntN(30), "x", 0))
		removed, all := revision.Remove(a, f.Ids), revision.Remove(b, nil)
		merged, _ := revision.Merge(a, b)
		same, _ := revision.Merge(a, nil)
		other, _ := revision.Merge(nil, a)
		sorted, ids := revision.Chronological(a), revision.Select(a, f)
		accept, reject := revision.Accept(a, f), revision.Reject(a, f)
		revision.ByAuthor(a)
		if !samples.Apart(a, b, f.Ids, added, removed, all, merged, same, other, sorted, ids, accept, reject) {
			t.Fatalf("%+v and %+v: results share memory", a, b)
		}
		if after := state(); after != before {
			t.Fatalf("%s was changed to %s", before, after)
		}
	}
}
