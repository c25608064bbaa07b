package blockmatch

import "obelus/api"

// matching returns the optimal matching of two lists, whose elements have strings. Those that are not alike have the similarity 0.
func matching[T any](a, b []T, text func(T) string, alike func(x, y T) bool) ([]Match, api.Errno) {
	if len(a) > MaxItems || len(b) > MaxItems {
		return nil, api.ErrLimit
	}
	k := make(keys)
	own, other := profiles(k, a, text), profiles(k, b, text)
	scores := make([][]int, len(a))
	for i := range a {
		scores[i] = make([]int, len(b))
		for j := range b {
			if alike(a[i], b[j]) {
				scores[i][j] = own[i].similarity(other[j])
			}
		}
	}
	return Best(scores)
}

func always[T any](T, T) bool { return true }

// profiles returns the profile of the string of each element.
func profiles[T any](k keys, l []T, text func(T) string) []profile {
	var all []profile
	for _, element := range l {
		tokens, _ := k.tokens(text(element))
		all = append(all, newProfile(tokens))
	}
	return all
}

func checkScores(scores [][]int) api.Errno {
	if len(scores) > MaxItems {
		return api.ErrLimit
	}
	for _, row := range scores {
		switch {
		case len(row) > MaxItems:
			return api.ErrLimit
		case len(row) != len(scores[0]):
			return api.ErrFormat
		}
		for _, score := range row {
			if score < 0 || score > 1000 {
				return api.ErrRange
			}
		}
	}
	return api.OK
}

// totalsOf returns the greatest totals of the matchings of all pairs of suffixes of two lists. Its rows are parts of one array.
func totalsOf(scores [][]int) [][]int {
	columns := 0
	if len(scores) > 0 {
		columns = len(scores[0])
	}
	width := columns + 1
	flat := make([]int, (len(scores)+1)*width)
	totals := make([][]int, len(scores)+1)
	for i := range totals {
		totals[i] = flat[i*width : (i+1)*width]
	}
	for i := len(scores) - 1; i >= 0; i-- {
		for j := columns - 1; j >= 0; j-- {
			totals[i][j] = max(totals[i+1][j], totals[i][j+1])
			if score := scores[i][j]; score >= Threshold {
				totals[i][j] = max(totals[i][j], score+totals[i+1][j+1])
			}
		}
	}
	return totals
}
