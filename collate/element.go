package collate

import (
	"obelus/api"
	"obelus/codepoint"
)

// The primary weights of groups of code points begin with these numbers; those of letters are letterStep apart.
const (
	signWeight   = 256
	digitWeight  = 512
	numberWeight = 768
	letterWeight = 32768
	letterStep   = 4
	otherWeight  = 65536
)

const (
	baseWeight = 32 // the secondary weight of what is no combining mark
	markWeight = 33 // the secondary weight of the first combining mark
)

// The tertiary weights: capital letters come behind small ones, or before them.
const (
	upperBefore = 1
	smallWeight = 2
	upperBehind = 3
)

const (
	firstMark = 0x300
	lastMark  = 0x36F
)

// toSmall is the difference of a small letter and its capital letter.
const toSmall = 'a' - 'A'

// maker makes the elements of strings.
type maker struct {
	options Options
	upper   int // the tertiary weight of capital letters
	pairs   [0x100]pair
}

func newMaker(o Options) *maker {
	upper := upperBehind
	if o.UpperFirst {
		upper = upperBefore
	}
	return &maker{o, upper, pairTable()}
}

// elements returns the elements of a string, or its error.
func (m *maker) elements(s string) ([]Element, api.Errno) {
	if len(s) > MaxString {
		return nil, api.ErrLong
	}
	points, e := codepoint.Points(s)
	if e != api.OK {
		return nil, e
	}
	l := make([]Element, 0, len(points))
	for at := 0; at < len(points); {
		if digits := countDigits(points[at:]); m.options.Numeric && digits > 0 {
			l = appendNumber(l, points[at:at+digits])
			at += digits
			continue
		}
		l = m.appendPoint(l, points[at])
		at++
	}
	return l, api.OK
}

// appendPoint appends the elements of a code point.
func (m *maker) appendPoint(l []Element, c int) []Element {
	switch {
	case isSilent(c):
		return l
	case isDigit(c):
		return append(l, base(digitWeight+c-'0'))
	case 'a' <= c && c <= 'z':
		return append(l, letter(c-'a', smallWeight))
	case 'A' <= c && c <= 'Z':
		return append(l, letter(c-'A', m.upper))
	case c < 0x80 && m.options.Ignore:
		return l
	case c < 0x80:
		return append(l, base(signWeight+c))
	case firstMark <= c && c <= lastMark:
		return append(l, Element{Secondary: markWeight + c - firstMark})
	case c < len(m.pairs) && m.pairs[c] != pair{}:
		return m.appendPoint(m.appendPoint(l, m.pairs[c].first), m.pairs[c].second)
	}
	return append(l, base(otherWeight+c))
}

// appendNumber appends the elements of a run of digits: numbers with more digits are greater.
func appendNumber(l []Element, digits []int) []Element {
	for len(digits) > 1 && digits[0] == '0' {
		digits = digits[1:]
	}
	l = append(l, base(numberWeight+len(digits)))
	for _, c := range digits {
		l = append(l, base(digitWeight+c-'0'))
	}
	return l
}

// countDigits returns the number of digits with which code points begin.
func countDigits(points []int) int {
	count := 0
	for count < len(points) && isDigit(points[count]) {
		count++
	}
	return count
}

func base(primary int) Element { return Element{primary, baseWeight, smallWeight} }

// letter returns the element of the letter with an index in the alphabet.
func letter(index, tertiary int) Element {
	return Element{letterWeight + letterStep*index, baseWeight, tertiary}
}

func isDigit(c int) bool { return '0' <= c && c <= '9' }

// isSilent reports whether a code point has no elements: controls, and the soft hyphen.
func isSilent(c int) bool { return c < 0x20 || 0x7F <= c && c <= 0x9F || c == 0xAD }

// pair is two code points that have the elements of one: a letter and its combining mark, or two letters.
type pair struct{ first, second int }

// pairTable returns the pairs of the accented letters and of the ligatures, at their code points; other ones are empty.
func pairTable() [0x100]pair {
	table := [0x100]pair{
		0xC0: {'A', 0x300}, 0xC1: {'A', 0x301}, 0xC2: {'A', 0x302}, 0xC3: {'A', 0x303}, 0xC4: {'A', 0x308}, 0xC5: {'A', 0x30A},
		0xC7: {'C', 0x327},
		0xC8: {'E', 0x300}, 0xC9: {'E', 0x301}, 0xCA: {'E', 0x302}, 0xCB: {'E', 0x308},
		0xCC: {'I', 0x300}, 0xCD: {'I', 0x301}, 0xCE: {'I', 0x302}, 0xCF: {'I', 0x308},
		0xD1: {'N', 0x303},
		0xD2: {'O', 0x300}, 0xD3: {'O', 0x301}, 0xD4: {'O', 0x302}, 0xD5: {'O', 0x303}, 0xD6: {'O', 0x308},
		0xD8: {'O', 0x338},
		0xD9: {'U', 0x300}, 0xDA: {'U', 0x301}, 0xDB: {'U', 0x302}, 0xDC: {'U', 0x308},
		0xDD: {'Y', 0x301},
		0xFF: {'y', 0x308},
		0xC6: {'A', 'E'}, 0xE6: {'a', 'e'}, 0xDF: {'s', 's'},
	}
	for capital := 0xC0; capital <= 0xDD; capital++ {
		if p := table[capital]; p.second >= firstMark {
			table[capital+toSmall] = pair{p.first + toSmall, p.second}
		}
	}
	return table
}
