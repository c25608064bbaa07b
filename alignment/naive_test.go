package alignment_test

import (
	"fmt"
	"math/rand/v2"
	"slices"

	"obelus/alignment"
)

type (
	token  = alignment.Token
	pair   = alignment.Pair
	region = alignment.Region
)

// tokens returns a token for each byte of a string, with the weight 1.
func tokens(s string) []token { return weighted(s, 1) }

// weighted returns a token for each byte of a string; the weights are repeated.
func weighted(s string, weights ...int) []token {
	var l []token
	for i := range len(s) {
		l = append(l, token{int(s[i]), weights[i%len(weights)]})
	}
	return l
}

// many returns a number of tokens with different keys.
func many(count, weight int) []token {
	var l []token
	for i := range count {
		l = append(l, token{i, weight})
	}
	return l
}

// random returns a list of at most some tokens, of which many have the same key.
func random(r *rand.Rand, most, keys int, weights ...int) []token {
	var l []token
	for range r.IntN(most + 1) {
		l = append(l, token{r.IntN(keys) - 1, weights[r.IntN(len(weights))]})
	}
	return l
}

// show returns a string that is equal for equal values, where nil and empty slices are equal.
func show(v any) string { return fmt.Sprintf("%+v", v) }

func reversed[T any](l []T) []T {
	other := slices.Clone(l)
	slices.Reverse(other)
	return other
}

// alignments returns all alignments of what is in two lists from the tokens i and j on.
func alignments(a, b []token, i, j int) [][]pair {
	all := [][]pair{nil}
	for x := i; x < len(a); x++ {
		for y := j; y < len(b); y++ {
			if a[x].Key != b[y].Key {
				continue
			}
			for _, rest := range alignments(a, b, x+1, y+1) {
				all = append(all, append([]pair{{x, y}}, rest...))
			}
		}
	}
	return all
}

// changed returns the number of the changed regions of an alignment.
func changed(a, b []token, pairs []pair) int {
	count := 0
	borders := slices.Concat([]pair{{-1, -1}}, pairs, []pair{{len(a), len(b)}})
	for k := 1; k < len(borders); k++ {
		if borders[k].A-borders[k-1].A+borders[k].B-borders[k-1].B > 2 {
			count++
		}
	}
	return count
}

func naiveScore(a, b []token, pairs []pair, gap int) int {
	score := -gap * changed(a, b, pairs)
	for _, p := range pairs {
		score += min(a[p.A].Weight, b[p.B].Weight)
	}
	return score
}

// optimal returns the greatest score of some alignments, and those that have it.
func optimal(a, b []token, all [][]pair, gap int) (best int, those [][]pair) {
	for k, pairs := range all {
		score := naiveScore(a, b, pairs, gap)
		if k == 0 || score > best {
			best, those = score, nil
		}
		if score == best {
			those = append(those, pairs)
		}
	}
	return best, those
}

// canonical chooses one of the alignments with the greatest score in the words of the chapter.
func canonical(a, b []token, those [][]pair) []pair {
	with := func(is func(p pair) bool, wanted bool) [][]pair {
		var some [][]pair
		for _, pairs := range those {
			if slices.ContainsFunc(pairs, is) == wanted {
				some = append(some, pairs)
			}
		}
		return some
	}
	var chosen []pair
	for i, j := 0, 0; i < len(a) && j < len(b); {
		matching := with(func(p pair) bool { return p == pair{i, j} }, true)
		withoutA := with(func(p pair) bool { return p.A == i }, false)
		switch {
		case len(matching) > 0:
			chosen = append(chosen, pair{i, j})
			those = matching
			i++
			j++
		case len(withoutA) > 0:
			those = withoutA
			i++
		default:
			those = with(func(p pair) bool { return p.B == j }, false)
			j++
		}
	}
	return chosen
}

// naiveBest finds the greatest score from the beginnings of the lists on: for each two prefixes, whether they end with a match or not.
func naiveBest(a, b []token, gap int) int {
	const none = -1 << 40
	type ends struct{ matched, not int }
	prefixes := make(map[pair]ends)
	for i := range len(a) + 1 {
		for j := range len(b) + 1 {
			e := ends{none, none}
			if i == 0 && j == 0 {
				e.matched = 0
			}
			if i > 0 && j > 0 && a[i-1].Key == b[j-1].Key {
				before := prefixes[pair{i - 1, j - 1}]
				e.matched = max(before.matched, before.not) + min(a[i-1].Weight, b[j-1].Weight)
			}
			for _, before := range []pair{{i - 1, j}, {i, j - 1}} {
				if p, found := prefixes[before]; found {
					e.not = max(e.not, p.matched-gap, p.not)
				}
			}
			prefixes[pair{i, j}] = e
		}
	}
	last := prefixes[pair{len(a), len(b)}]
	return max(last.matched, last.not)
}

// naiveRegions joins the tokens of two lists one by one.
func naiveRegions(a, b []token, pairs []pair) []region {
	var all []region
	add := func(i, j, toI, toJ int, same bool) {
		if last := len(all) - 1; last >= 0 && all[last].Same == same {
			all[last].ToA, all[last].ToB = toI, toJ
			return
		}
		all = append(all, region{i, toI, j, toJ, same})
	}
	i, j := 0, 0
	for _, p := range append(slices.Clone(pairs), pair{len(a), len(b)}) {
		for ; i < p.A; i++ {
			add(i, j, i+1, j, false)
		}
		for ; j < p.B; j++ {
			add(i, j, i, j+1, false)
		}
		if i < len(a) && j < len(b) {
			add(i, j, i+1, j+1, true)
		}
		i, j = i+1, j+1
	}
	return all
}

// somePairs returns an alignment that is chosen at random.
func somePairs(r *rand.Rand, a, b []token) []pair {
	var pairs []pair
	for i, j := 0, 0; i < len(a) && j < len(b); {
		switch {
		case a[i].Key == b[j].Key && r.IntN(3) > 0:
			pairs = append(pairs, pair{i, j})
			i++
			j++
		case r.IntN(2) == 0:
			i++
		default:
			j++
		}
	}
	return pairs
}
