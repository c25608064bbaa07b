package alignment_test

import (
	"math"
	"math/rand/v2"
	"slices"
	"testing"

	"obelus/alignment"
	"obelus/api"
	"obelus/samples"
)

func TestP1AllArguments(t *testing.T) {
	r := rand.New(rand.NewPCG(30, 1))
	numbers := append(samples.Numbers(), alignment.MaxWeight, alignment.MaxWeight+1)
	number := func() int { return numbers[r.IntN(len(numbers))] }
	list := func() []token {
		l := random(r, 6, 3, 1, 2, 1000)
		if len(l) > 0 && r.IntN(4) == 0 {
			l[r.IntN(len(l))].Weight = number()
		}
		return l
	}
	possible := 0
	for i := range 20000 {
		a, b, gap := list(), list(), number()
		if i%1000 == 0 {
			a = many(alignment.MaxTokens+i%2000/1000, 1)
		}
		pairs := somePairs(r, a, b)
		if r.IntN(2) == 0 {
			pairs = append(pairs, pair{number(), number()})
		}
		alignment.Check(a)
		alignment.CheckPairs(a, b, pairs)
		score, e1 := alignment.Score(a, b, pairs, gap)
		best, e2 := alignment.Best(a, b, gap)
		canonical, e3 := alignment.Align(a, b, gap)
		regions, e4 := alignment.Regions(a, b, pairs)
		similarity, e5 := alignment.Similarity(a, b)
		if e1 != api.OK && score != 0 || e2 != api.OK && best != 0 || e3 != api.OK && canonical != nil || e4 != api.OK && regions != nil || e5 != api.OK && similarity != 0 {
			t.Fatalf("%+v and %+v: %d, %d, %v, %v, %d", a, b, score, best, canonical, regions, similarity)
		}
		if e1 == api.OK && e3 == api.OK {
			possible++
		}
	}
	if possible < 500 {
		t.Errorf("%d calls have no error", possible)
	}
}

func TestP30_1Check(t *testing.T) {
	full, fuller := many(alignment.MaxTokens, 1), many(alignment.MaxTokens+1, 1)
	for i, c := range []struct {
		l    []token
		want api.Errno
	}{
		{nil, api.OK}, {tokens("abc"), api.OK}, {full, api.OK}, {fuller, api.ErrLimit}, {many(alignment.MaxTokens+1, 0), api.ErrLimit},
		{weighted("ab", 1, 1000), api.OK}, {weighted("ab", 1000, 1), api.OK}, {weighted("ab", 1, 0), api.ErrValue}, {weighted("ab", 0, 1), api.ErrValue}, {weighted("a", 1001), api.ErrValue}, {weighted("a", -1), api.ErrValue}, {weighted("a", math.MinInt), api.ErrValue}, {weighted("a", math.MaxInt), api.ErrValue},
		{[]token{{math.MinInt, 1}, {math.MaxInt, 1}, {0, 1}, {-1, 1}}, api.OK}, {many(alignment.MaxTokens, 1001), api.ErrValue},
	} {
		if e := alignment.Check(c.l); e != c.want {
			t.Errorf("%d: Check = %d; want %d", i, e, c.want)
		}
	}
	if alignment.MaxTokens != 2048 || alignment.MaxWeight != 1000 || alignment.MaxGap != 1000 {
		t.Errorf("the limits are wrong")
	}
}

func TestP30_1CheckPairs(t *testing.T) {
	a, b := tokens("abcab"), tokens("bacb")
	for i, c := range []struct {
		pairs []pair
		want  api.Errno
	}{
		{nil, api.OK}, {[]pair{{0, 1}, {2, 2}, {4, 3}}, api.OK}, {[]pair{{4, 0}}, api.OK}, {[]pair{{1, 0}, {3, 1}, {4, 3}}, api.OK},
		{[]pair{{-1, 0}}, api.ErrRange}, {[]pair{{0, -1}}, api.ErrRange}, {[]pair{{5, 0}}, api.ErrRange}, {[]pair{{0, 4}}, api.ErrRange}, {[]pair{{math.MaxInt, 1}}, api.ErrRange}, {[]pair{{0, math.MinInt}}, api.ErrRange},
		{[]pair{{0, 1}, {0, 1}}, api.ErrOrder}, {[]pair{{3, 1}, {2, 2}}, api.ErrOrder}, {[]pair{{1, 3}, {3, 1}}, api.ErrOrder}, {[]pair{{1, 0}, {1, 3}}, api.ErrOrder}, {[]pair{{1, 3}, {4, 3}}, api.ErrOrder},
		{[]pair{{0, 0}}, api.ErrConflict}, {[]pair{{0, 1}, {2, 3}}, api.ErrConflict},
		{[]pair{{0, 1}, {0, 5}}, api.ErrRange}, {[]pair{{0, 1}, {0, 2}}, api.ErrOrder}, {[]pair{{0, 0}, {9, 9}}, api.ErrConflict}, {[]pair{{0, 1}, {0, 1}, {9, 9}}, api.ErrOrder}, {[]pair{{0, 1}, {2, 3}, {0, 0}}, api.ErrConflict},
	} {
		if e := alignment.CheckPairs(a, b, c.pairs); e != c.want {
			t.Errorf("%d: CheckPairs(%v) = %d; want %d", i, c.pairs, e, c.want)
		}
	}
	if e := alignment.CheckPairs(nil, nil, nil); e != api.OK {
		t.Errorf("CheckPairs = %d", e)
	}
	if e := alignment.CheckPairs(nil, nil, []pair{{}}); e != api.ErrRange {
		t.Errorf("CheckPairs = %d", e)
	}
}

// TestP30_1Lists has lists that are not permitted: their errors come before all others.
func TestP30_1Lists(t *testing.T) {
	good, heavy, long := tokens("ab"), weighted("ab", 1, 1001), many(alignment.MaxTokens+1, 1)
	for i, c := range []struct {
		a, b []token
		want api.Errno
	}{
		{good, good, api.OK}, {heavy, good, api.ErrValue}, {good, heavy, api.ErrValue}, {long, good, api.ErrLimit}, {good, long, api.ErrLimit}, {long, heavy, api.ErrLimit}, {heavy, long, api.ErrValue},
	} {
		for k, e := range []api.Errno{
			alignment.CheckPairs(c.a, c.b, []pair{{9, 9}}), second(alignment.Score(c.a, c.b, []pair{{9, 9}}, 1)), second(alignment.Score(c.a, c.b, nil, -1)),
			second(alignment.Best(c.a, c.b, -1)), second(alignment.Align(c.a, c.b, 1001)), second(alignment.Regions(c.a, c.b, []pair{{-1, 0}})),
		} {
			if want := c.want; want == api.OK && e != api.ErrRange || want != api.OK && e != want {
				t.Errorf("%d, %d: the error is %d", i, k, e)
			}
		}
		if _, e := alignment.Similarity(c.a, c.b); e != c.want {
			t.Errorf("%d: Similarity has the error %d", i, e)
		}
	}
}

func second[T any](_ T, e api.Errno) api.Errno { return e }

func TestP30_2Score(t *testing.T) {
	a, b := weighted("abcab", 3, 5), weighted("bacb", 4, 2, 1000)
	for i, c := range []struct {
		a, b  []token
		pairs []pair
		gap   int
		want  int
		e     api.Errno
	}{
		{nil, nil, nil, 7, 0, api.OK}, {a, nil, nil, 7, -7, api.OK}, {nil, b, nil, 7, -7, api.OK}, {a, b, nil, 7, -7, api.OK}, {a, b, nil, 0, 0, api.OK},
		{a, b, []pair{{0, 1}, {2, 2}, {4, 3}}, 10, 2 + 3 + 3 - 30, api.OK}, {a, b, []pair{{1, 0}, {4, 3}}, 1, 4 + 3 - 2, api.OK}, {a, b, []pair{{4, 0}}, 1000, 3 - 2000, api.OK},
		{tokens("abc"), tokens("axc"), []pair{{0, 0}, {2, 2}}, 1, 1, api.OK}, {tokens("abc"), tokens("abc"), []pair{{0, 0}, {1, 1}, {2, 2}}, 1000, 3, api.OK}, {tokens("ab"), tokens("acab"), []pair{{0, 0}, {1, 3}}, 1, 1, api.OK}, {tokens("ab"), tokens("acab"), []pair{{0, 2}, {1, 3}}, 1, 1, api.OK},
		{a, b, nil, -1, 0, api.ErrRange}, {a, b, nil, 1001, 0, api.ErrRange}, {a, b, nil, math.MinInt, 0, api.ErrRange}, {a, b, []pair{{0, 0}}, 1001, 0, api.ErrRange}, {a, b, []pair{{0, 0}}, 5, 0, api.ErrConflict}, {a, b, []pair{{0, 1}, {0, 1}}, 5, 0, api.ErrOrder}, {a, b, []pair{{5, 1}}, 5, 0, api.ErrRange},
	} {
		if got, e := alignment.Score(c.a, c.b, c.pairs, c.gap); got != c.want || e != c.e {
			t.Errorf("%d: Score = %d, %d; want %d, %d", i, got, e, c.want, c.e)
		}
	}
	r := rand.New(rand.NewPCG(30, 2))
	for range 20000 {
		a, b, gap := random(r, 9, 3, 1, 2, 5, 1000), random(r, 9, 3, 1, 3, 7), r.IntN(1001)
		pairs := somePairs(r, a, b)
		if got, e := alignment.Score(a, b, pairs, gap); got != naiveScore(a, b, pairs, gap) || e != api.OK {
			t.Fatalf("Score(%+v, %+v, %v, %d) = %d, %d", a, b, pairs, gap, got, e)
		}
	}
}

func TestP30_3Align(t *testing.T) {
	for i, c := range []struct {
		a, b  []token
		gap   int
		best  int
		pairs []pair
		e     api.Errno
	}{
		{nil, nil, 5, 0, nil, api.OK}, {tokens("a"), nil, 5, -5, nil, api.OK}, {nil, tokens("ab"), 5, -5, nil, api.OK}, {tokens("a"), tokens("b"), 5, -5, nil, api.OK},
		{tokens("abc"), tokens("axc"), 0, 2, []pair{{0, 0}, {2, 2}}, api.OK}, {tokens("abc"), tokens("axc"), 1, 1, []pair{{0, 0}, {2, 2}}, api.OK}, {tokens("ab"), tokens("acab"), 1, 1, []pair{{0, 0}, {1, 3}}, api.OK}, {tokens("aba"), tokens("aca"), 5, -3, []pair{{0, 0}, {2, 2}}, api.OK},
		{tokens("xabcy"), tokens("zabcw"), 2, -1, []pair{{1, 1}, {2, 2}, {3, 3}}, api.OK}, {tokens("xay"), tokens("zaw"), 1, -1, nil, api.OK}, {weighted("xay", 2), weighted("zaw", 2), 1, 0, []pair{{1, 1}}, api.OK}, {tokens("xay"), tokens("zaw"), 2, -2, nil, api.OK},
		{weighted("ab", 3, 5), weighted("ba", 4), 0, 4, []pair{{1, 0}}, api.OK}, {weighted("ab", 4, 4), weighted("ba", 4), 0, 4, []pair{{1, 0}}, api.OK}, {weighted("aa", 1, 9), weighted("a", 9), 0, 9, []pair{{1, 0}}, api.OK}, {weighted("a", 9), weighted("aa", 1, 9), 0, 9, []pair{{0, 1}}, api.OK},
		{weighted("aa", 9), weighted("a", 9), 0, 9, []pair{{0, 0}}, api.OK}, {tokens("aa"), tokens("aaa"), 1, 1, []pair{{0, 0}, {1, 1}}, api.OK}, {tokens("aaa"), tokens("aa"), 0, 2, []pair{{0, 0}, {1, 1}}, api.OK},
		{tokens("abab"), tokens("ab"), 1, 1, []pair{{0, 0}, {1, 1}}, api.OK}, {tokens("xab"), tokens("ab"), 3, -1, []pair{{1, 0}, {2, 1}}, api.OK}, {weighted("a", 1000), weighted("ba", 1000), 1000, 0, []pair{{0, 1}}, api.OK},
		{tokens("a"), tokens("a"), -1, 0, nil, api.ErrRange}, {tokens("a"), tokens("a"), 1001, 0, nil, api.ErrRange}, {nil, nil, math.MaxInt, 0, nil, api.ErrRange},
	} {
		best, e := alignment.Best(c.a, c.b, c.gap)
		pairs, f := alignment.Align(c.a, c.b, c.gap)
		if best != c.best || show(pairs) != show(c.pairs) || e != c.e || f != c.e {
			t.Errorf("%d: Best = %d, %d, Align = %v, %d; want %d, %v, %d", i, best, e, pairs, f, c.best, c.pairs, c.e)
		}
	}
}

// checkAll compares Best and Align with all alignments of two lists.
func checkAll(t *testing.T, a, b []token, gaps ...int) {
	t.Helper()
	all := alignments(a, b, 0, 0)
	for _, gap := range gaps {
		want, those := optimal(a, b, all, gap)
		if best, e := alignment.Best(a, b, gap); best != want || e != api.OK {
			t.Fatalf("Best(%+v, %+v, %d) = %d, %d; want %d", a, b, gap, best, e, want)
		}
		pairs, e := alignment.Align(a, b, gap)
		if first := canonical(a, b, those); show(pairs) != show(first) || e != api.OK {
			t.Fatalf("Align(%+v, %+v, %d) = %v, %d; want %v", a, b, gap, pairs, e, first)
		}
		if again := naiveBest(a, b, gap); again != want {
			t.Fatalf("the greatest score of %+v and %+v for %d is %d or %d", a, b, gap, want, again)
		}
	}
}

// TestP30_3Short looks at all pairs of short lists.
func TestP30_3Short(t *testing.T) {
	for x := range samples.Strings([]string{"a", "b", "c"}, 3) {
		for y := range samples.Strings([]string{"a", "b", "c"}, 3) {
			checkAll(t, tokens(x), tokens(y), 0, 1, 2, 3)
			checkAll(t, weighted(x, 2, 3, 1), weighted(y, 3, 1, 2), 0, 1, 2, 1000)
		}
	}
	for x := range samples.Strings([]string{"a", "b"}, 5) {
		for y := range samples.Strings([]string{"a", "b"}, 5) {
			checkAll(t, tokens(x), tokens(y), 1)
		}
	}
}

func TestP30_3Random(t *testing.T) {
	r := rand.New(rand.NewPCG(30, 3))
	for range 20000 {
		checkAll(t, random(r, 6, 4, 1, 2, 3, 4), random(r, 6, 4, 1, 2, 3, 4), r.IntN(5))
	}
	for range 5000 {
		checkAll(t, random(r, 6, 3, 1, 500, 999, 1000), random(r, 6, 3, 1, 400, 1000), r.IntN(1001))
	}
}

func TestP30_4Regions(t *testing.T) {
	a, b := tokens("abc"), tokens("axc")
	for i, c := range []struct {
		a, b  []token
		pairs []pair
		want  []region
		e     api.Errno
	}{
		{nil, nil, nil, nil, api.OK}, {a, nil, nil, []region{{0, 3, 0, 0, false}}, api.OK}, {nil, b, nil, []region{{0, 0, 0, 3, false}}, api.OK}, {a, b, nil, []region{{0, 3, 0, 3, false}}, api.OK},
		{a, b, []pair{{0, 0}, {2, 2}}, []region{{0, 1, 0, 1, true}, {1, 2, 1, 2, false}, {2, 3, 2, 3, true}}, api.OK}, {a, a, []pair{{0, 0}, {1, 1}, {2, 2}}, []region{{0, 3, 0, 3, true}}, api.OK}, {a, a, []pair{{1, 1}}, []region{{0, 1, 0, 1, false}, {1, 2, 1, 2, true}, {2, 3, 2, 3, false}}, api.OK},
		{tokens("aab"), tokens("aaab"), []pair{{0, 0}, {1, 2}, {2, 3}}, []region{{0, 1, 0, 1, true}, {1, 1, 1, 2, false}, {1, 3, 2, 4, true}}, api.OK}, {tokens("aaab"), tokens("aab"), []pair{{1, 0}, {2, 1}}, []region{{0, 1, 0, 0, false}, {1, 3, 0, 2, true}, {3, 4, 2, 3, false}}, api.OK},
		{a, b, []pair{{1, 1}}, nil, api.ErrConflict}, {a, b, []pair{{3, 0}}, nil, api.ErrRange}, {a, b, []pair{{2, 2}, {0, 0}}, nil, api.ErrOrder},
	} {
		if got, e := alignment.Regions(c.a, c.b, c.pairs); show(got) != show(c.want) || e != c.e {
			t.Errorf("%d: Regions = %+v, %d; want %+v, %d", i, got, e, c.want, c.e)
		}
	}
	r := rand.New(rand.NewPCG(30, 4))
	for range 20000 {
		a, b := random(r, 9, 2, 1), random(r, 9, 2, 1)
		pairs := somePairs(r, a, b)
		got, e := alignment.Regions(a, b, pairs)
		if want := naiveRegions(a, b, pairs); show(got) != show(want) || e != api.OK {
			t.Fatalf("Regions(%+v, %+v, %v) = %+v, %d; want %+v", a, b, pairs, got, e, want)
		}
		count := 0
		for _, one := range got {
			if !one.Same {
				count++
			}
		}
		if count != changed(a, b, pairs) {
			t.Fatalf("Regions(%+v, %+v, %v) has %d changed regions", a, b, pairs, count)
		}
	}
}

func TestP30_5Similarity(t *testing.T) {
	for i, c := range []struct {
		a, b []token
		want int
	}{
		{nil, nil, 1000}, {tokens("a"), nil, 0}, {nil, tokens("ab"), 0}, {tokens("a"), tokens("a"), 1000}, {tokens("a"), tokens("b"), 0}, {tokens("abc"), tokens("axc"), 666}, {tokens("ab"), tokens("a"), 666}, {tokens("abc"), tokens("a"), 500},
		{weighted("a", 1), weighted("a", 1000), 1}, {weighted("a", 999), weighted("a", 1000), 999}, {weighted("ab", 3, 5), weighted("ba", 4), 500}, {weighted("ab", 1000), weighted("ab", 1000), 1000}, {tokens("abab"), tokens("baba"), 750}, {weighted("a", 1), append(weighted("b", 1000, 1000), weighted("a", 1000)...), 0},
	} {
		if got, e := alignment.Similarity(c.a, c.b); got != c.want || e != api.OK {
			t.Errorf("%d: Similarity = %d, %d; want %d", i, got, e, c.want)
		}
	}
	r := rand.New(rand.NewPCG(30, 5))
	for range 5000 {
		a, b := random(r, 12, 4, 1, 2, 9), random(r, 12, 4, 1, 2, 9)
		sum := 0
		for _, one := range append(slices.Clone(a), b...) {
			sum += one.Weight
		}
		want := 1000
		if sum > 0 {
			want = 2000 * naiveBest(a, b, 0) / sum
		}
		if got, e := alignment.Similarity(a, b); got != want || e != api.OK {
			t.Fatalf("Similarity(%+v, %+v) = %d, %d; want %d", a, b, got, e, want)
		}
	}
}

// TestP30_6Consequences looks at lists that are longer than those of the naive forms.
func TestP30_6Consequences(t *testing.T) {
	r := rand.New(rand.NewPCG(30, 6))
	for range 3000 {
		a, b, gap := random(r, 40, 6, 1, 2, 5), random(r, 40, 6, 1, 2, 5), r.IntN(6)
		before := show(a) + show(b)
		best, _ := alignment.Best(a, b, gap)
		if want := naiveBest(a, b, gap); best != want {
			t.Fatalf("Best(%+v, %+v, %d) = %d; want %d", a, b, gap, best, want)
		}
		other, _ := alignment.Best(b, a, gap)
		backwards, _ := alignment.Best(reversed(a), reversed(b), gap)
		pairs, _ := alignment.Align(a, b, gap)
		score, e := alignment.Score(a, b, pairs, gap)
		if other != best || backwards != best || score != best || e != api.OK {
			t.Fatalf("%+v and %+v for %d: %d, %d, %d, %d, %d", a, b, gap, best, other, backwards, score, e)
		}
		for range 5 {
			if score, e := alignment.Score(a, b, somePairs(r, a, b), gap); score > best || e != api.OK {
				t.Fatalf("Score of %+v and %+v for %d is %d, Best %d", a, b, gap, score, best)
			}
		}
		similarity, _ := alignment.Similarity(a, b)
		same, _ := alignment.Similarity(b, a)
		if similarity != same || similarity < 0 || similarity > 1000 || (similarity == 1000) != slices.Equal(a, b) {
			t.Fatalf("Similarity(%+v, %+v) = %d, %d", a, b, similarity, same)
		}
		self, _ := alignment.Align(a, slices.Clone(a), gap)
		whole, _ := alignment.Similarity(a, slices.Clone(a))
		if len(self) != len(a) || whole != 1000 {
			t.Fatalf("%+v is aligned with itself by %v", a, self)
		}
		if show(a)+show(b) != before {
			t.Fatalf("%s was changed", before)
		}
	}
}

func TestP30_6NewMemory(t *testing.T) {
	a, b := tokens("abcab"), tokens("bacb")
	pairs, _ := alignment.Align(a, b, 0)
	before := show(pairs)
	regions, _ := alignment.Regions(a, b, pairs)
	shown := show(regions)
	for i := range regions {
		regions[i] = region{}
	}
	again, _ := alignment.Align(a, b, 0)
	for i := range again {
		again[i] = pair{}
	}
	last, _ := alignment.Align(a, b, 0)
	other, _ := alignment.Regions(a, b, pairs)
	if len(pairs) == 0 || show(pairs) != before || show(last) != before || show(other) != shown {
		t.Errorf("memory is shared: %v, %v, %v", pairs, last, other)
	}
}

// TestP30_6Large aligns the longest lists.
func TestP30_6Large(t *testing.T) {
	a := many(alignment.MaxTokens, alignment.MaxWeight)
	b := append(slices.Clone(a[1024:]), a[:1024]...)
	for i, c := range []struct {
		b               []token
		gap, best, same int
	}{
		{a, 1000, 2048000, 1000}, {b, 0, 1024000, 500}, {b, 1000, 1022000, 500}, {many(alignment.MaxTokens, 1), 0, 2048, 1},
	} {
		best, e := alignment.Best(a, c.b, c.gap)
		pairs, f := alignment.Align(a, c.b, c.gap)
		score, g := alignment.Score(a, c.b, pairs, c.gap)
		similarity, h := alignment.Similarity(a, c.b)
		if best != c.best || score != best || similarity != c.same || e != api.OK || f != api.OK || g != api.OK || h != api.OK {
			t.Errorf("%d: Best = %d, Score = %d, Similarity = %d", i, best, score, similarity)
		}
	}
	pairs, _ := alignment.Align(a, b, 0)
	if len(pairs) != 1024 || pairs[0] != (pair{1024, 0}) {
		t.Errorf("Align has %d pairs, the first one is %v", len(pairs), pairs[0])
	}
}
