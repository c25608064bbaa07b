package alignment

import "math"

// The choices at two tokens: they are matched, or one of them is left out.
const (
	match  = 0
	leaveA = 1
	leaveB = 2
)

// table finds the best alignments of all pairs of suffixes of two lists, from their ends on.
type table struct {
	a, b    []Token
	gap     int
	choices []byte // for the tokens i and j, the choice outside of a changed region, and 4 times that inside of one; empty if they are not wanted
}

// scores are the greatest scores of two suffixes if they begin outside of a changed region, and if they go on with one that was paid for already.
type scores struct{ outside, inside int }

// fill makes the choices, and returns the greatest score of the whole lists.
func (t *table) fill() int {
	row, below := make([]scores, len(t.b)+1), make([]scores, len(t.b)+1)
	for j := range t.b {
		below[j].outside = -t.gap
	}
	for i := len(t.a) - 1; i >= 0; i-- {
		t.fillRow(i, row, below)
		row, below = below, row
	}
	return below[0].outside
}

// fillRow finds the scores from the token i of the first list on, when below has those from the next token on.
func (t *table) fillRow(i int, row, below []scores) {
	next := scores{outside: -t.gap}
	row[len(t.b)] = next
	for j := len(t.b) - 1; j >= 0; j-- {
		matched := math.MinInt
		if t.a[i].Key == t.b[j].Key {
			matched = min(t.a[i].Weight, t.b[j].Weight) + below[j+1].outside
		}
		withoutA, withoutB := below[j].inside, next.inside
		without := max(withoutA, withoutB)
		if len(t.choices) > 0 {
			leave := byte(leaveA)
			if withoutA < withoutB {
				leave = leaveB
			}
			t.choices[i*len(t.b)+j] = choose(matched, without-t.gap, leave) | choose(matched, without, leave)<<2
		}
		next = scores{max(matched, without-t.gap), max(matched, without)}
		row[j] = next
	}
}

// choose returns the choice between the score of a match and that of leaving a token out.
func choose(matched, without int, leave byte) byte {
	if matched >= without {
		return match
	}
	return leave
}

// pairs returns the matches to which the choices lead from the beginning on.
func (t *table) pairs() []Pair {
	var all []Pair
	isInside := false
	for i, j := 0, 0; i < len(t.a) && j < len(t.b); {
		choice := t.choices[i*len(t.b)+j] & 3
		if isInside {
			choice = t.choices[i*len(t.b)+j] >> 2
		}
		isInside = choice != match
		switch choice {
		case match:
			all = append(all, Pair{i, j})
			i++
			j++
		case leaveA:
			i++
		case leaveB:
			j++
		}
	}
	return all
}
