package leveltext

import (
	"iter"
	"strings"

	"obelus/api"
	"obelus/numeral"
)

// longestNumeral is the number of bytes of mmmdccclxxxviii; no numeral is longer.
const longestNumeral = 15

// span is the numbers from least to greatest; all numerals but bullets stand for a single one.
type span struct{ least, greatest int }

func all() span { return span{0, numeral.MaxNumeral} }

// and returns the numbers that both spans have.
func (s span) and(o span) span { return span{max(s.least, o.least), min(s.greatest, o.greatest)} }

func (s span) isEmpty() bool { return s.least > s.greatest }

// reading is a numeral at some place of a label: its bytes, and the numbers that it can stand for.
type reading struct {
	size    int
	numbers span
}

// place is a place of a label at which a numeral of a format is read.
type place struct{ format, at int }

// state is how far a label has been read: the parts and bytes that have been, and the numbers that each level can have, as far as later parts depend on them.
type state struct {
	parts, bytes int
	numbers      [api.MaxLevels]span
}

// begin returns the state in which nothing has been read.
func begin() state {
	var s state
	for i := range s.numbers {
		s.numbers[i] = all()
	}
	return s
}

// matcher looks for the numbers with which some parts are a label.
type matcher struct {
	levels   []api.Level
	parts    []Part
	label    string
	last     map[int]int         // the last part of each level
	readings map[place][]reading // those that have been looked for
	failed   map[state]bool      // states from which there is no way to the end
}

func newMatcher(levels []api.Level, parts []Part, label string) *matcher {
	last := make(map[int]int)
	for i, p := range parts {
		last[p.Level] = i
	}
	return &matcher{levels, parts, label, last, make(map[place][]reading), make(map[state]bool)}
}

// fits reports whether the rest of the label fits the rest of the parts.
func (m *matcher) fits(s state) bool {
	if s.parts == len(m.parts) {
		return s.bytes == len(m.label)
	}
	if m.failed[s] {
		return false
	}
	for next := range m.steps(s) {
		if m.fits(next) {
			return true
		}
	}
	m.failed[s] = true
	return false
}

// steps yields the states behind the next part.
func (m *matcher) steps(s state) iter.Seq[state] {
	return func(yield func(state) bool) {
		p := m.parts[s.parts]
		if !p.isPlace() {
			if strings.HasPrefix(m.label[s.bytes:], p.Literal) {
				yield(state{s.parts + 1, s.bytes + len(p.Literal), s.numbers})
			}
			return
		}
		for _, r := range m.read(place{p.format(m.levels), s.bytes}) {
			numbers := s.numbers[p.Level-1].and(r.numbers)
			if numbers.isEmpty() {
				continue
			}
			if m.last[p.Level] == s.parts { // so that states agree that differ in nothing else
				numbers = all()
			}
			next := state{s.parts + 1, s.bytes + r.size, s.numbers}
			next.numbers[p.Level-1] = numbers
			if !yield(next) {
				return
			}
		}
	}
}

// read returns the numerals that begin at a place.
func (m *matcher) read(p place) []reading {
	if known, found := m.readings[p]; found {
		return known
	}
	var l []reading
	rest := m.label[p.at:]
	for size := 1; size <= min(len(rest), longestNumeral); size++ {
		if numbers := denoted(p.format, rest[:size]); !numbers.isEmpty() {
			l = append(l, reading{size, numbers})
		}
	}
	m.readings[p] = l
	return l
}

// denoted returns the numbers whose numeral for a placeholder of a format is s.
func denoted(format int, s string) span {
	if format == api.Bullet && s == numeralOf(format, 1) {
		return span{1, numeral.MaxNumeral}
	}
	for _, f := range []int{format, api.Decimal} {
		if n, e := numeral.Parse(f, s); e == api.OK && numeralOf(format, n) == s {
			return span{n, n}
		}
	}
	return span{1, 0}
}
