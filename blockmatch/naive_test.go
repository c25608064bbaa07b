package blockmatch_test

import (
	"fmt"
	"math/rand/v2"
	"slices"
	"strings"

	"obelus/alignment"
	"obelus/api"
	"obelus/blockmatch"
	"obelus/document"
	"obelus/paragraph"
	"obelus/run"
	"obelus/samples"
	"obelus/segment"
)

var (
	text, para, section, note, table = samples.Text, samples.Para, samples.Section, samples.Note, samples.Table
	row, cell, flow                  = samples.Row, samples.Cell, samples.Flow
)

type (
	token = alignment.Token
	match = blockmatch.Match
)

// show returns a string that is equal for equal values, where nil and empty slices are equal.
func show(v any) string { return fmt.Sprintf("%+v", v) }

// broken is a text that is not valid UTF-8.
func broken() api.Item { return text("a\xFF") }

// paras returns a flow with a paragraph for each string.
func paras(strings ...string) []api.Item {
	var l []api.Item
	for _, s := range strings {
		if s != "" {
			l = append(l, text(s))
		}
		l = append(l, para())
	}
	return l
}

// naiveTokens returns the tokens of two strings, whose strings are looked for in a list.
func naiveTokens(a, b string) (x, y []token) {
	var known []string
	list := func(s string) (l []token) {
		tokens, _ := segment.Tokens(s)
		points := []rune(s)
		for i, t := range tokens {
			own := string(points[t.From:t.To])
			if i == 2048 {
				break
			}
			if !slices.Contains(known, own) {
				known = append(known, own)
			}
			weight := min(t.To-t.From, 1000)
			if t.Kind == segment.Space {
				weight = 1
			}
			l = append(l, token{Key: slices.Index(known, own) + 1, Weight: weight})
		}
		return l
	}
	x = list(a)
	return x, list(b)
}

// naiveSimilarity finds the greatest weight that two strings have in common from their beginnings on.
func naiveSimilarity(a, b string) int {
	x, y := naiveTokens(a, b)
	sum := 0
	for _, t := range slices.Concat(x, y) {
		sum += t.Weight
	}
	if sum == 0 {
		return 1000
	}
	best := make([][]int, len(x)+1)
	best[0] = make([]int, len(y)+1)
	for i := range x {
		best[i+1] = make([]int, len(y)+1)
		for j := range y {
			best[i+1][j+1] = max(best[i][j+1], best[i+1][j])
			if x[i] == y[j] {
				best[i+1][j+1] = max(best[i+1][j+1], best[i][j]+x[i].Weight)
			}
		}
	}
	return 2000 * best[len(x)][len(y)] / sum
}

// matchings returns all matchings from the elements i and j on.
func matchings(scores [][]int, i, j int) [][]match {
	all := [][]match{nil}
	for x := i; x < len(scores); x++ {
		for y := j; y < len(scores[x]); y++ {
			if scores[x][y] < 400 {
				continue
			}
			for _, rest := range matchings(scores, x+1, y+1) {
				all = append(all, append([]match{{x, y, scores[x][y]}}, rest...))
			}
		}
	}
	return all
}

func total(l []match) int {
	sum := 0
	for _, m := range l {
		sum += m.Score
	}
	return sum
}

// naiveBest chooses one of the matchings with the greatest total in the words of the chapter.
func naiveBest(scores [][]int) []match {
	all, best := matchings(scores, 0, 0), 0
	for _, l := range all {
		best = max(best, total(l))
	}
	all = slices.DeleteFunc(all, func(l []match) bool { return total(l) < best })
	with := func(is func(m match) bool, wanted bool) [][]match {
		var some [][]match
		for _, l := range all {
			if slices.ContainsFunc(l, is) == wanted {
				some = append(some, l)
			}
		}
		return some
	}
	var chosen []match
	for i, j := 0, 0; i < len(scores) && j < len(scores[0]); {
		matching := with(func(m match) bool { return m.A == i && m.B == j }, true)
		withoutA := with(func(m match) bool { return m.A == i }, false)
		switch {
		case len(matching) > 0:
			chosen = append(chosen, match{i, j, scores[i][j]})
			all = matching
			i++
			j++
		case len(withoutA) > 0:
			all = withoutA
			i++
		default:
			all = with(func(m match) bool { return m.B == j }, false)
			j++
		}
	}
	return chosen
}

// naiveStrings returns the kinds and the strings of the blocks of a flow.
func naiveStrings(l []api.Item) (kinds []int, all []string) {
	blocks, _ := paragraph.Blocks(l)
	for _, b := range blocks {
		s, _ := paragraph.Text(l, b)
		if b.Kind == paragraph.Table {
			units, _ := run.Slice(l, b.From, b.To)
			s = ""
			for _, r := range units[0].Rows {
				s += naiveRow(r)
			}
		}
		kinds, all = append(kinds, b.Kind), append(all, s)
	}
	return kinds, all
}

func naiveRow(r api.Row) string {
	s := ""
	for _, c := range r.Cells {
		s += run.Text(c.Flow) + "\n"
	}
	return s
}

// naiveMatching matches the strings of two lists of elements with kinds.
func naiveMatching(kindsA []int, a []string, kindsB []int, b []string) []match {
	var scores [][]int
	for i := range a {
		scores = append(scores, make([]int, len(b)))
		for j := range b {
			if kindsA[i] == kindsB[j] {
				scores[i][j] = naiveSimilarity(a[i], b[j])
			}
		}
	}
	best, _ := blockmatch.Best(scores)
	return best
}

func naiveBlocks(a, b []api.Item) []match {
	kindsA, x := naiveStrings(a)
	kindsB, y := naiveStrings(b)
	return naiveMatching(kindsA, x, kindsB, y)
}

// words returns a string of some words and signs of a few letters.
func words(r *rand.Rand, most int) string {
	parts := []string{"the", "cat", "sat", "down", "\u00e9t\u00e9", " ", " ", " ", "  ", ",", "!", "3.5", "\u4e00", "\n", "on", "e\u0301"}
	var s strings.Builder
	for range r.IntN(most + 1) {
		s.WriteString(parts[r.IntN(len(parts))])
	}
	return s.String()
}

// changed returns a string in which some characters are missing or inserted.
func changed(r *rand.Rand, s string) string {
	points := []rune(s)
	for range r.IntN(4) {
		at := r.IntN(len(points) + 1)
		points = slices.Replace(points, at, min(at+r.IntN(6), len(points)), []rune(words(r, 2))...)
	}
	return string(points)
}

// someFlow returns a flow with blocks of all kinds.
func someFlow(r *rand.Rand, strings []string) []api.Item {
	var l []api.Item
	for i, s := range strings {
		switch r.IntN(12) {
		case 0:
			l = append(l, table(10*i+1, row(cell(10*i+2, text("."), text(s)), cell(10*i+3)), row(cell(10*i+4, note(10*i+5, para())))))
		case 1:
			l = append(l, section())
		case 2:
			l = append(l, samples.Anchor(api.CommentStart, 1))
		case 3:
			l = append(l, samples.Break(api.Tab), samples.Field("page"))
		}
		l = append(l, paras(s)...)
	}
	return l
}

// manyFlows calls a function for many pairs of flows, which often have much in common.
func manyFlows(count int, seed uint64, f func(r *rand.Rand, a, b []api.Item)) {
	r := rand.New(rand.NewPCG(31, seed))
	for i := range count {
		var a, b []string
		for range r.IntN(8) {
			s := words(r, 10)
			if r.IntN(5) > 0 {
				a = append(a, s)
			}
			if r.IntN(5) > 0 {
				b = append(b, changed(r, s))
			}
		}
		x, y := someFlow(r, a), someFlow(r, b)
		switch i % 6 {
		case 0:
			x = document.Normal(samples.Document(r.IntN)).Flow
			y = document.Normal(samples.Edited(r.IntN, samples.Doc(x...), 2)).Flow
		case 1:
			x = samples.Plain(r.IntN).Flow
		}
		f(r, x, y)
	}
}

// cellsIn returns the cells of the tables of a flow, and rowsIn their rows.
func cellsIn(l []api.Item) (all []api.Cell) {
	for _, r := range rowsIn(l) {
		all = append(all, r.Cells...)
	}
	return all
}
func rowsIn(l []api.Item) (all []api.Row) {
	for _, item := range l {
		for _, r := range item.Rows {
			all = append(all, r)
			for _, c := range r.Cells {
				all = append(all, rowsIn(c.Flow)...)
			}
		}
	}
	return all
}
