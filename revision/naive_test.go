package revision_test

import (
	"fmt"
	"math"
	"math/rand/v2"
	"slices"
	"strings"
	"unicode/utf8"

	"obelus/api"
	"obelus/revision"
	"obelus/samples"
)

func rev(id int, author string, time int) api.Rev {
	return api.Rev{Id: id, Author: author, Time: time}
}

// table returns a valid table of a number of revisions with the ids from 1 on.
func table(count int) []api.Rev {
	var l []api.Rev
	for id := 1; id <= count; id++ {
		l = append(l, rev(id, "a", 0))
	}
	return l
}

// example is the table of the chapter's example.
func example() []api.Rev { return []api.Rev{rev(2, "Ann", 10), rev(5, "Bob", 7), rev(9, "Ann", 3)} }

// show returns a string that is equal for equal values, where nil and empty slices are equal.
func show(v any) string { return fmt.Sprintf("%+v", v) }

// full shows a table together with what stands behind its end.
func full(l []api.Rev) string { return show(l[:cap(l)]) }

// ids returns the ids of a table.
func ids(l []api.Rev) (all []int) {
	for _, r := range l {
		all = append(all, r.Id)
	}
	return all
}

// source makes revisions and tables, valid ones and others.
type source struct{ *rand.Rand }

func newSource(seed uint64) source { return source{rand.New(rand.NewPCG(22, seed))} }

// table makes a valid table with room behind its end, in which revisions with equal ids are often equal to those of other tables.
func (s source) table() []api.Rev {
	l := make([]api.Rev, 0, 12)
	for id := 1 + s.IntN(3); len(l) < s.IntN(10); id += 1 + s.IntN(3) {
		r := rev(id, []string{"Ann", "Bob", "\u00e9", "ann"}[id%4], id*7%5)
		if s.IntN(20) == 0 {
			r.Time++
		}
		l = append(l, r)
	}
	return l
}

// wild makes a table that is seldom valid, but in which each revision is.
func (s source) wild() []api.Rev {
	l := make([]api.Rev, 0, 12)
	for range s.IntN(8) {
		l = append(l, rev(1+s.IntN(6), []string{"Ann", "Bob", "\u00e9", "ann"}[s.IntN(4)], s.IntN(6)))
	}
	return l
}

// wrong makes a table of revisions of all kinds.
func (s source) wrong() []api.Rev {
	l := s.wild()
	numbers := append(samples.Numbers(), api.MaxId, api.MaxId+1, api.MaxTime, api.MaxTime+1)
	authors := []string{"", "\xFF", "a", strings.Repeat("a", 40), strings.Repeat("a", 41), strings.Repeat("\u00e9", 20), "\xED\xA0\x80"}
	for i := range l {
		switch s.IntN(6) {
		case 0:
			l[i].Id = numbers[s.IntN(len(numbers))]
		case 1:
			l[i].Author = authors[s.IntN(len(authors))]
		case 2:
			l[i].Time = numbers[s.IntN(len(numbers))]
		}
	}
	return l
}

// any makes a table of one of the three kinds.
func (s source) any() []api.Rev {
	return []func() []api.Rev{s.table, s.wild, s.wrong}[s.IntN(3)]()
}

// filter makes a filter that selects some revisions of most tables.
func (s source) filter() revision.Filter {
	f := revision.Filter{From: s.IntN(8) - 3, To: s.IntN(8) - 1, Authors: make([]string, 0, 4), Ids: make([]int, 0, 4)}
	for range s.IntN(4) {
		f.Authors = append(f.Authors, []string{"Ann", "Bob", "\u00e9", "ann", "", "B"}[s.IntN(6)])
	}
	for range s.IntN(2) * s.IntN(5) {
		f.Ids = append(f.Ids, s.IntN(9)-1)
	}
	if s.IntN(6) == 0 {
		f.From, f.To = math.MinInt, math.MaxInt
	}
	return f
}

func naiveCheckRev(r api.Rev) api.Errno {
	for _, c := range []struct {
		wrong bool
		e     api.Errno
	}{{r.Id <= 0 || r.Id > 1<<30, api.ErrId}, {len(r.Author) == 0, api.ErrEmpty}, {len(r.Author) > 40, api.ErrLong}, {!utf8.ValidString(r.Author), api.ErrUTF8}, {r.Time < 0 || r.Time > 1<<40, api.ErrTime}} {
		if c.wrong {
			return c.e
		}
	}
	return api.OK
}

func naiveCheck(l []api.Rev) api.Errno {
	if len(l) > 256 {
		return api.ErrLimit
	}
	before := math.MinInt
	for _, r := range l {
		if e := naiveCheckRev(r); e != api.OK {
			return e
		}
		if r.Id == before {
			return api.ErrDuplicate
		}
		if r.Id < before {
			return api.ErrOrder
		}
		before = r.Id
	}
	return api.OK
}

// naiveSort returns a copy of a table that is sorted by exchanging neighbours.
func naiveSort(l []api.Rev, less func(a, b api.Rev) bool) []api.Rev {
	l = slices.Clone(l)
	for range l {
		for i := 1; i < len(l); i++ {
			if less(l[i], l[i-1]) {
				l[i-1], l[i] = l[i], l[i-1]
			}
		}
	}
	return l
}

func naiveAdd(l []api.Rev, r api.Rev) ([]api.Rev, api.Errno) {
	if e := naiveCheck(l); e != api.OK {
		return nil, e
	}
	if e := naiveCheckRev(r); e != api.OK {
		return nil, e
	}
	if slices.Contains(ids(l), r.Id) {
		return nil, api.ErrDuplicate
	}
	if len(l) == 256 {
		return nil, api.ErrLimit
	}
	return naiveSort(append(slices.Clone(l), r), func(a, b api.Rev) bool { return a.Id < b.Id }), api.OK
}

func naiveMerge(a, b []api.Rev) ([]api.Rev, api.Errno) {
	if e := naiveCheck(a); e != api.OK {
		return nil, e
	}
	if e := naiveCheck(b); e != api.OK {
		return nil, e
	}
	all := slices.Clone(a)
	for _, r := range b {
		if !slices.Contains(a, r) {
			all = append(all, r)
		}
	}
	all = naiveSort(all, func(a, b api.Rev) bool { return a.Id < b.Id })
	for i := 1; i < len(all); i++ {
		if all[i].Id == all[i-1].Id {
			return nil, api.ErrConflict
		}
	}
	if len(all) > 256 {
		return nil, api.ErrLimit
	}
	return all, api.OK
}

// naiveSelect tries all ids that tables of a source have.
func naiveSelect(l []api.Rev, f revision.Filter) (all []int) {
	candidates := ids(l)
	slices.Sort(candidates)
	for i, id := range candidates {
		if i > 0 && id == candidates[i-1] {
			continue
		}
		for _, r := range l {
			author := len(f.Authors) == 0 || slices.Contains(f.Authors, r.Author)
			time := f.From <= r.Time && (r.Time <= f.To || f.To == 0)
			if r.Id == id && author && time && (len(f.Ids) == 0 || slices.Contains(f.Ids, id)) {
				all = append(all, id)
				break
			}
		}
	}
	return all
}

// naiveGroups looks for the authors in the order of their names.
func naiveGroups(l []api.Rev) (groups []revision.Group) {
	var authors []string
	for _, r := range l {
		if !slices.Contains(authors, r.Author) {
			authors = append(authors, r.Author)
		}
	}
	slices.Sort(authors)
	for _, author := range authors {
		g := revision.Group{Author: author}
		var times []int
		for _, r := range l {
			if r.Author == author {
				times = append(times, r.Time)
			}
		}
		g.Count, g.First, g.Last = len(times), slices.Min(times), slices.Max(times)
		groups = append(groups, g)
	}
	return groups
}
