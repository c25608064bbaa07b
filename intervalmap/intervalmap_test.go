package intervalmap_test

import (
	"iter"
	"math"
	"math/rand/v2"
	"slices"
	"testing"

	"obelus/api"
	"obelus/intervalmap"
	"obelus/samples"
)

// runsOf returns the runs of a list of values, by the words of the chapter.
func runsOf(values []int) []intervalmap.Run {
	var runs []intervalmap.Run
	for from := 0; from < len(values); {
		to := from
		for to < len(values) && values[to] == values[from] {
			to++
		}
		runs = append(runs, intervalmap.Run{From: from, To: to, Value: values[from]})
		from = to
	}
	return runs
}

func newMap(t *testing.T, values []int) *intervalmap.Map {
	t.Helper()
	m, e := intervalmap.FromRuns(runsOf(values))
	if m == nil || e != api.OK {
		t.Fatalf("FromRuns of %d = %p, %d", values, m, e)
	}
	return m
}

// has checks that a map has these values.
func has(t *testing.T, m *intervalmap.Map, values []int) {
	t.Helper()
	if got, want := m.Runs(), runsOf(values); !slices.Equal(got, want) || m.Len() != len(values) {
		t.Fatalf("the runs are %v, the length is %d; want %v", got, m.Len(), want)
	}
}

// lists yields all lists of at most a number of values from 0 to 2.
func lists(most int) iter.Seq[[]int] {
	return func(yield func([]int) bool) {
		for s := range samples.Strings([]string{"0", "1", "2"}, most) {
			var values []int
			for _, digit := range s {
				values = append(values, int(digit-'0'))
			}
			if !yield(values) {
				return
			}
		}
	}
}

// ranges yields offsets in and around a list, with the error that they lead to.
func ranges(length int) iter.Seq2[[2]int, api.Errno] {
	return func(yield func([2]int, api.Errno) bool) {
		for from := -1; from <= length+1; from++ {
			for to := -1; to <= length+1; to++ {
				e := api.ErrRange
				if 0 <= from && from <= to && to <= length {
					e = api.OK
				}
				if !yield([2]int{from, to}, e) {
					return
				}
			}
		}
		for _, strange := range [][2]int{{math.MinInt, 0}, {0, math.MinInt}, {0, math.MaxInt}, {math.MaxInt, math.MaxInt}, {math.MaxInt, math.MinInt}, {math.MinInt, math.MaxInt}} {
			if !yield(strange, api.ErrRange) {
				return
			}
		}
	}
}

func TestP1AllArguments(t *testing.T) {
	for _, values := range [][]int{nil, {1}, {1, 2, 2, math.MinInt}} {
		for _, a := range samples.Numbers() {
			if m, e := intervalmap.New(a, a); (e == api.OK) != (m != nil) {
				t.Errorf("New(%d, %d) = %p, %d", a, a, m, e)
			}
			m := newMap(t, values)
			if v, e := m.At(a); e != api.OK && v != 0 {
				t.Errorf("At(%d) = %d, %d", a, v, e)
			}
			if at, ok := m.Next(a); !ok && at != 0 {
				t.Errorf("Next(%d) = %d, false", a, at)
			}
			for _, b := range samples.Numbers() {
				if at, ok := m.Find(a, b); !ok && at != 0 {
					t.Errorf("Find(%d, %d) = %d, false", a, b, at)
				}
				for _, c := range samples.Numbers() {
					if n, e := m.Total(a, b, c); e != api.OK && n != 0 {
						t.Errorf("Total(%d, %d, %d) = %d, %d", a, b, c, n, e)
					}
					for _, e := range []api.Errno{m.Splice(a, b, c, a), m.Set(a, b, c), m.Add(a, b, c)} {
						if e == api.OK {
							m = newMap(t, values)
						}
					}
					has(t, m, values)
				}
			}
		}
	}
}

func TestP1NilMap(t *testing.T) {
	var m *intervalmap.Map
	if m.Len() != 0 || len(m.Runs()) != 0 || m.Clone() != nil {
		t.Error("a method of the nil map returns no zero value")
	}
	for _, n := range samples.Numbers() {
		if v, e := m.At(n); v != 0 || e != api.ErrArgument {
			t.Errorf("At(%d) = %d, %d", n, v, e)
		}
		if total, e := m.Total(n, n, n); total != 0 || e != api.ErrArgument {
			t.Errorf("Total(%d) = %d, %d", n, total, e)
		}
		for _, e := range []api.Errno{m.Set(n, n, n), m.Add(n, n, n), m.Splice(n, n, n, n)} {
			if e != api.ErrArgument {
				t.Errorf("a change of the nil map at %d: %d", n, e)
			}
		}
		if at, ok := m.Next(n); at != 0 || ok {
			t.Errorf("Next(%d) = %d, %v", n, at, ok)
		}
		if at, ok := m.Find(n, 0); at != 0 || ok {
			t.Errorf("Find(%d) = %d, %v", n, at, ok)
		}
	}
}

func TestP1ZeroMap(t *testing.T) {
	m := new(intervalmap.Map)
	has(t, m, nil)
	if !m.Equal(newMap(t, nil)) {
		t.Error("the zero map is no map of the length 0")
	}
	if e := m.Splice(0, 0, 2, 5); e != api.OK {
		t.Errorf("Splice = %d", e)
	}
	has(t, m, []int{5, 5})
}

func TestP5_1New(t *testing.T) {
	for _, value := range []int{math.MinInt, -1, 0, 7, math.MaxInt} {
		for _, length := range []int{0, 1, 2, intervalmap.MaxLen} {
			m, e := intervalmap.New(length, value)
			if e != api.OK {
				t.Fatalf("New(%d, %d) = %d", length, value, e)
			}
			has(t, m, slices.Repeat([]int{value}, length))
		}
		for _, length := range []int{math.MinInt, -1, intervalmap.MaxLen + 1, math.MaxInt} {
			if m, e := intervalmap.New(length, value); m != nil || e != api.ErrRange {
				t.Errorf("New(%d, %d) = %p, %d", length, value, m, e)
			}
		}
	}
	if intervalmap.MaxLen != 1048576 {
		t.Errorf("MaxLen = %d", intervalmap.MaxLen)
	}
}

func TestP5_1FromRuns(t *testing.T) {
	const most = intervalmap.MaxLen
	for _, c := range []struct {
		runs []intervalmap.Run
		want api.Errno
	}{
		{nil, api.OK},
		{[]intervalmap.Run{{0, 1, 0}}, api.OK},
		{[]intervalmap.Run{{0, most, -3}}, api.OK},
		{[]intervalmap.Run{{0, 2, 1}, {2, 3, 2}, {3, most, 1}}, api.OK},
		{[]intervalmap.Run{{1, 2, 0}}, api.ErrOrder},
		{[]intervalmap.Run{{-1, 2, 0}}, api.ErrOrder},
		{[]intervalmap.Run{{0, 0, 0}}, api.ErrOrder},
		{[]intervalmap.Run{{0, -1, 0}}, api.ErrOrder},
		{[]intervalmap.Run{{0, math.MinInt, 0}}, api.ErrOrder},
		{[]intervalmap.Run{{0, 2, 0}, {3, 4, 1}}, api.ErrOrder},
		{[]intervalmap.Run{{0, 2, 0}, {1, 4, 1}}, api.ErrOrder},
		{[]intervalmap.Run{{0, 2, 0}, {2, 2, 1}}, api.ErrOrder},
		{[]intervalmap.Run{{0, most + 1, 0}}, api.ErrRange},
		{[]intervalmap.Run{{0, math.MaxInt, 0}}, api.ErrRange},
		{[]intervalmap.Run{{0, 2, 0}, {2, most + 1, 1}}, api.ErrRange},
		{[]intervalmap.Run{{0, 2, 0}, {2, 4, 0}}, api.ErrFormat},
		// Of several errors, that of the first run counts, and for one run the first in the order of the chapter.
		{[]intervalmap.Run{{0, 2, 5}, {2, 4, 5}, {9, 9, 5}}, api.ErrFormat},
		{[]intervalmap.Run{{0, 2, 5}, {2, most + 1, 6}, {9, 9, 6}}, api.ErrRange},
		{[]intervalmap.Run{{0, 2, 5}, {3, most + 1, 5}}, api.ErrOrder},
		{[]intervalmap.Run{{0, 2, 5}, {2, most + 1, 5}}, api.ErrRange},
		{[]intervalmap.Run{{0, 2, 5}, {2, 1, 5}}, api.ErrOrder},
	} {
		m, e := intervalmap.FromRuns(c.runs)
		if e != c.want || (m == nil) != (e != api.OK) {
			t.Errorf("FromRuns(%v) = %p, %d; want %d", c.runs, m, e, c.want)
		}
		if e == api.OK && !slices.Equal(m.Runs(), c.runs) {
			t.Errorf("FromRuns(%v) has the runs %v", c.runs, m.Runs())
		}
	}
}

func TestP5_2At(t *testing.T) {
	for values := range lists(5) {
		m := newMap(t, values)
		has(t, m, values)
		for at := -2; at <= len(values)+1; at++ {
			want, wantErr := 0, api.ErrRange
			if 0 <= at && at < len(values) {
				want, wantErr = values[at], api.OK
			}
			if v, e := m.At(at); v != want || e != wantErr {
				t.Fatalf("At(%d) of %d = %d, %d", at, values, v, e)
			}
		}
		for _, at := range []int{math.MinInt, math.MaxInt} {
			if v, e := m.At(at); v != 0 || e != api.ErrRange {
				t.Fatalf("At(%d) of %d = %d, %d", at, values, v, e)
			}
		}
	}
}

func TestP5_3Set(t *testing.T) {
	for values := range lists(5) {
		for r, wantErr := range ranges(len(values)) {
			for value := range 4 {
				m, want := newMap(t, values), slices.Clone(values)
				if wantErr == api.OK {
					copy(want[r[0]:r[1]], slices.Repeat([]int{value}, r[1]-r[0]))
				}
				if e := m.Set(r[0], r[1], value); e != wantErr {
					t.Fatalf("Set(%d, %d) of %d = %d", r, value, values, e)
				}
				has(t, m, want)
			}
		}
	}
}

func TestP5_3Add(t *testing.T) {
	for values := range lists(5) {
		for r, wantErr := range ranges(len(values)) {
			for _, delta := range []int{-2, -1, 0, 1, math.MaxInt, math.MinInt} {
				m, want := newMap(t, values), slices.Clone(values)
				if wantErr == api.OK {
					for i := range want[r[0]:r[1]] {
						want[r[0]+i] += delta
					}
				}
				if e := m.Add(r[0], r[1], delta); e != wantErr {
					t.Fatalf("Add(%d, %d) of %d = %d", r, delta, values, e)
				}
				has(t, m, want)
			}
		}
	}
	m := newMap(t, []int{math.MaxInt, math.MinInt, 0})
	if e := m.Add(0, 3, 1); e != api.OK {
		t.Errorf("Add = %d", e)
	}
	has(t, m, []int{math.MinInt, math.MinInt + 1, 1})
}

func TestP5_4Splice(t *testing.T) {
	for values := range lists(4) {
		for r, wantErr := range ranges(len(values)) {
			at, remove := r[0], r[1]-r[0]
			for insert := range 3 {
				for value := range 4 {
					m, want := newMap(t, values), slices.Clone(values)
					if wantErr == api.OK {
						want = slices.Replace(want, at, at+remove, slices.Repeat([]int{value}, insert)...)
					}
					if e := m.Splice(at, remove, insert, value); e != wantErr {
						t.Fatalf("Splice(%d, %d, %d, %d) of %d = %d", at, remove, insert, value, values, e)
					}
					has(t, m, want)
				}
			}
		}
	}
}

func TestP5_4Errors(t *testing.T) {
	const most = intervalmap.MaxLen
	for _, c := range []struct {
		length, at, remove, insert int
		want                       api.Errno
	}{
		{4, 0, -1, 0, api.ErrRange},
		{4, 2, -1, 0, api.ErrRange},
		{4, 0, 0, -1, api.ErrRange},
		{4, 2, 2, -1, api.ErrRange},
		{4, -1, 1, 0, api.ErrRange},
		{4, 5, 0, 0, api.ErrRange},
		{4, 3, 2, 0, api.ErrRange},
		{4, 2, math.MaxInt, 0, api.ErrRange},
		{4, math.MaxInt, math.MaxInt, 0, api.ErrRange},
		{4, 2, math.MinInt, 0, api.ErrRange},
		{4, math.MinInt, math.MaxInt, 0, api.ErrRange},
		{4, math.MinInt, math.MinInt, 0, api.ErrRange},
		{4, 0, 0, math.MinInt, api.ErrRange},
		{4, 5, 0, most, api.ErrRange},
		{4, 0, 5, math.MaxInt, api.ErrRange},
		{4, -1, 1, math.MaxInt, api.ErrRange},
		{4, 0, 0, most, api.ErrLimit},
		{4, 0, 0, most - 4, api.OK},
		{4, 4, 0, most - 3, api.ErrLimit},
		{4, 1, 3, most - 1, api.OK},
		{4, 1, 3, most, api.ErrLimit},
		{4, 0, 4, most, api.OK},
		{4, 0, 4, most + 1, api.ErrLimit},
		{4, 0, 0, math.MaxInt, api.ErrLimit},
		{4, 0, 4, math.MaxInt, api.ErrLimit},
		{0, 0, 0, most, api.OK},
		{0, 0, 0, most + 1, api.ErrLimit},
		{most, 7, 0, 0, api.OK},
		{most, most, 0, 1, api.ErrLimit},
		{most, 0, most, most, api.OK},
		{most, 0, most, 0, api.OK},
		{most, 0, 1, 2, api.ErrLimit},
	} {
		m, _ := intervalmap.New(c.length, 1)
		if e := m.Splice(c.at, c.remove, c.insert, 1); e != c.want {
			t.Errorf("Splice(%d, %d, %d) of the length %d = %d; want %d", c.at, c.remove, c.insert, c.length, e, c.want)
		}
		want := c.length
		if c.want == api.OK {
			want += c.insert - c.remove
		}
		if m.Len() != want {
			t.Errorf("Splice(%d, %d, %d) of the length %d leaves the length %d", c.at, c.remove, c.insert, c.length, m.Len())
		}
	}
}

func TestP5_4Example(t *testing.T) {
	m, _ := intervalmap.New(10, 0)
	if e := []api.Errno{m.Set(2, 5, 7), m.Set(4, 8, 7)}; e[0] != api.OK || e[1] != api.OK {
		t.Errorf("Set: %d", e)
	}
	if want := []intervalmap.Run{{0, 2, 0}, {2, 8, 7}, {8, 10, 0}}; !slices.Equal(m.Runs(), want) {
		t.Errorf("the runs are %v", m.Runs())
	}
	if e := m.Splice(3, 4, 1, 0); e != api.OK {
		t.Errorf("Splice = %d", e)
	}
	if want := []intervalmap.Run{{0, 2, 0}, {2, 3, 7}, {3, 4, 0}, {4, 5, 7}, {5, 7, 0}}; !slices.Equal(m.Runs(), want) {
		t.Errorf("the runs are %v", m.Runs())
	}
}

func TestP5_5Next(t *testing.T) {
	for values := range lists(5) {
		m := newMap(t, values)
		for _, offset := range []int{math.MinInt, -1, 0, 1, 2, 3, 4, 5, 6, math.MaxInt} {
			want, found := 0, false
			for _, r := range runsOf(values) {
				if r.From >= offset {
					want, found = r.From, true
					break
				}
			}
			if at, ok := m.Next(offset); at != want || ok != found {
				t.Fatalf("Next(%d) of %d = %d, %v", offset, values, at, ok)
			}
		}
	}
}

func TestP5_5Find(t *testing.T) {
	for values := range lists(5) {
		m := newMap(t, values)
		for _, offset := range []int{math.MinInt, -1, 0, 1, 2, 3, 4, 5, 6, math.MaxInt} {
			for value := -1; value <= 3; value++ {
				want, found := 0, false
				for i, v := range values {
					if i >= offset && v == value {
						want, found = i, true
						break
					}
				}
				if at, ok := m.Find(offset, value); at != want || ok != found {
					t.Fatalf("Find(%d, %d) of %d = %d, %v", offset, value, values, at, ok)
				}
			}
		}
	}
}

func TestP5_5Total(t *testing.T) {
	for values := range lists(5) {
		m := newMap(t, values)
		for r, wantErr := range ranges(len(values)) {
			for value := -1; value <= 3; value++ {
				want := 0
				if wantErr == api.OK {
					for _, v := range values[r[0]:r[1]] {
						if v == value {
							want++
						}
					}
				}
				if n, e := m.Total(r[0], r[1], value); n != want || e != wantErr {
					t.Fatalf("Total(%d, %d) of %d = %d, %d", r, value, values, n, e)
				}
			}
		}
	}
}

func TestP5_6Clone(t *testing.T) {
	for values := range lists(4) {
		m := newMap(t, values)
		clone := m.Clone()
		has(t, clone, values)
		if !m.Equal(clone) {
			t.Fatalf("the clone of %d is not equal", values)
		}
		if e := clone.Add(0, len(values), 1); e != api.OK {
			t.Fatalf("Add = %d", e)
		}
		has(t, m, values)
		clone = m.Clone()
		if e := m.Splice(0, 0, 1, 9); e != api.OK {
			t.Fatalf("Splice = %d", e)
		}
		has(t, clone, values)
	}
}

func TestP5_6Equal(t *testing.T) {
	list := slices.Collect(lists(4))
	for _, a := range list {
		for _, b := range list {
			if got := newMap(t, a).Equal(newMap(t, b)); got != slices.Equal(a, b) {
				t.Fatalf("Equal of %d and %d = %v", a, b, got)
			}
		}
	}
	var none *intervalmap.Map
	for _, m := range []*intervalmap.Map{new(intervalmap.Map), newMap(t, []int{0})} {
		if m.Equal(nil) || none.Equal(m) {
			t.Errorf("the nil map is equal to one of the length %d", m.Len())
		}
	}
	if !none.Equal(nil) {
		t.Error("two nil maps are not equal")
	}
}

func TestP5_6Zip(t *testing.T) {
	list := slices.Collect(lists(4))
	for _, a := range list {
		for _, b := range list {
			var want []intervalmap.Pair
			wantErr := api.OK
			if len(a) != len(b) {
				wantErr = api.ErrRange
			} else {
				want = pairsOf(a, b)
			}
			if got, e := intervalmap.Zip(newMap(t, a), newMap(t, b)); !slices.Equal(got, want) || e != wantErr {
				t.Fatalf("Zip of %d and %d = %v, %d; want %v", a, b, got, e, want)
			}
		}
	}
	for _, m := range []*intervalmap.Map{nil, newMap(t, nil), newMap(t, []int{1})} {
		if got, e := intervalmap.Zip(m, nil); len(got) != 0 || e != api.ErrArgument {
			t.Errorf("Zip with nil = %v, %d", got, e)
		}
		if got, e := intervalmap.Zip(nil, m); len(got) != 0 || e != api.ErrArgument {
			t.Errorf("Zip with nil = %v, %d", got, e)
		}
	}
}

// pairsOf returns the maximal ranges of equal pairs of two lists of one length.
func pairsOf(a, b []int) []intervalmap.Pair {
	var pairs []intervalmap.Pair
	for at := range a {
		last := len(pairs) - 1
		if last >= 0 && pairs[last].A == a[at] && pairs[last].B == b[at] {
			pairs[last].To = at + 1
		} else {
			pairs = append(pairs, intervalmap.Pair{From: at, To: at + 1, A: a[at], B: b[at]})
		}
	}
	return pairs
}

func TestP5_7Consequences(t *testing.T) {
	for values := range lists(4) {
		m := newMap(t, values)
		if back, e := intervalmap.FromRuns(m.Runs()); e != api.OK || !back.Equal(m) {
			t.Fatalf("FromRuns of the runs of %d: %d", values, e)
		}
		for r, e := range ranges(len(values)) {
			if e != api.OK {
				continue
			}
			from, to := r[0], r[1]
			total := 0
			for value := range 3 {
				n, _ := m.Total(from, to, value)
				total += n
			}
			if total != to-from {
				t.Fatalf("the totals of %d to %d of %d add up to %d", from, to, values, total)
			}
			once, twice, spliced := m.Clone(), m.Clone(), m.Clone()
			e := []api.Errno{once.Set(from, to, 7), twice.Set(from, to, 7), twice.Set(from, to, 7), spliced.Splice(from, to-from, to-from, 7)}
			if slices.Max(e) != api.OK || !once.Equal(twice) || !once.Equal(spliced) {
				t.Fatalf("setting %d to %d of %d: %d, %v, %v, %v", from, to, values, e, once.Runs(), twice.Runs(), spliced.Runs())
			}
		}
	}
}

func TestP5_7Disjoint(t *testing.T) {
	values := []int{0, 1, 1, 2, 0, 0}
	for a, e := range ranges(len(values)) {
		for b, f := range ranges(len(values)) {
			if e != api.OK || f != api.OK || a[0] < b[1] && b[0] < a[1] {
				continue
			}
			x, y := newMap(t, values), newMap(t, values)
			errors := []api.Errno{x.Set(a[0], a[1], 7), x.Set(b[0], b[1], 8), y.Set(b[0], b[1], 8), y.Set(a[0], a[1], 7)}
			if slices.Max(errors) != api.OK || !x.Equal(y) {
				t.Fatalf("setting %d and %d: %d, %v, %v", a, b, errors, x.Runs(), y.Runs())
			}
		}
	}
}

func TestP5_7NewMemory(t *testing.T) {
	runs := runsOf([]int{1, 1, 2})
	m, _ := intervalmap.FromRuns(runs)
	runs[0].Value = 9
	has(t, m, []int{1, 1, 2})
	m.Runs()[0].Value = 9
	has(t, m, []int{1, 1, 2})
	kept := m.Runs()
	if e := m.Set(0, 1, 5); e != api.OK {
		t.Errorf("Set = %d", e)
	}
	if want := runsOf([]int{1, 1, 2}); !slices.Equal(kept, want) {
		t.Errorf("Set has changed the runs to %v", kept)
	}
	pairs, _ := intervalmap.Zip(m, m)
	pairs[0].A = 9
	if again, _ := intervalmap.Zip(m, m); again[0].A != 5 {
		t.Error("the result of Zip is kept")
	}
}

func TestP5_7ManyChanges(t *testing.T) {
	for seed := range uint64(20) {
		random := rand.New(rand.NewPCG(seed, 5))
		values := slices.Repeat([]int{1}, 40)
		m := newMap(t, values)
		for range 400 {
			from := random.IntN(len(values) + 1)
			to := from + random.IntN(min(8, len(values)-from)+1)
			value := random.IntN(3)
			var e api.Errno
			switch random.IntN(3) {
			case 0:
				e = m.Set(from, to, value)
				copy(values[from:to], slices.Repeat([]int{value}, to-from))
			case 1:
				e = m.Add(from, to, value-1)
				for i := from; i < to; i++ {
					values[i] += value - 1
				}
			case 2:
				insert := random.IntN(8)
				e = m.Splice(from, to-from, insert, value)
				values = slices.Replace(values, from, to, slices.Repeat([]int{value}, insert)...)
			}
			if e != api.OK {
				t.Fatalf("a change of %d to %d: %d", from, to, e)
			}
			has(t, m, values)
		}
	}
}
