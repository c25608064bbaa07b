package alignment

import "iter"

// regions yields the regions of an alignment of two lists with some lengths.
func regions(lengthA, lengthB int, pairs []Pair) iter.Seq[Region] {
	return func(yield func(Region) bool) {
		var at Pair // what was looked at ends here
		for rest := pairs; ; {
			next := Pair{lengthA, lengthB}
			if len(rest) > 0 {
				next = rest[0]
			}
			if at != next && !yield(Region{at.A, next.A, at.B, next.B, false}) || len(rest) == 0 {
				return
			}
			count := neighbours(rest)
			at = Pair{next.A + count, next.B + count}
			if !yield(Region{next.A, at.A, next.B, at.B, true}) {
				return
			}
			rest = rest[count:]
		}
	}
}

// neighbours returns how many pairs at the beginning of a list follow one another without a changed region.
func neighbours(pairs []Pair) int {
	count := 1
	for count < len(pairs) && pairs[count] == (Pair{pairs[0].A + count, pairs[0].B + count}) {
		count++
	}
	return count
}
