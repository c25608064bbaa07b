// Package segment divides strings into words, numbers, spaces and signs, and finds the places where lines can be broken. It is layer 3: see shared/doc/03-segment.md.
package segment

import (
	"slices"

	"obelus/api"
	"obelus/codepoint"
)

// The classes of code points.
const (
	Other     = 0
	Newline   = 1
	Blank     = 2
	Glue      = 3
	Soft      = 4
	Letter    = 5
	Digit     = 6
	Ideograph = 7
	Open      = 8
	Close     = 9
	Infix     = 10
	Connect   = 11
	Hyphen    = 12
	Dash      = 13
)

// The kinds of tokens.
const (
	Word     = 1
	Number   = 2
	Space    = 3
	Sign     = 4
	Ideogram = 5
	Control  = 6
)

// The kinds of breaks.
const (
	May        = 1 // a line can end here
	Must       = 2 // a line ends here
	Hyphenated = 3 // a line can end here, with a hyphen
)

// Token is the units of a string from From on, before To.
type Token struct{ Kind, From, To int }

// Break is a place between two units where a line can or must end.
type Break struct{ At, Kind int }

// Class returns the class of a code point.
func Class(point int) int { return classIn(classTable(), point) }

// Tokens returns the tokens of a string, Texts their strings, and Words the strings of the words and numbers.
func Tokens(s string) ([]Token, api.Errno) {
	t, e := read(s)
	if e != api.OK {
		return nil, e
	}
	return slices.Collect(t.tokens()), api.OK
}
func Texts(s string) ([]string, api.Errno) {
	return texts(s, func(Token) bool { return true })
}
func Words(s string) ([]string, api.Errno) {
	return texts(s, func(t Token) bool { return t.Kind == Word || t.Kind == Number })
}

// At returns the token that has a unit, Next the next beginning of a token that is no space, and Prev the previous one.
func At(s string, unit int) (Token, api.Errno) {
	t, e := read(s)
	if e != api.OK {
		return Token{}, e
	}
	for token := range t.tokens() {
		if token.From <= unit && unit < token.To {
			return token, api.OK
		}
	}
	return Token{}, api.ErrRange
}
func Next(s string, unit int) (int, api.Errno) {
	t, e := readAround(s, unit)
	if e != api.OK {
		return 0, e
	}
	for token := range t.tokens() {
		if token.Kind != Space && token.From > unit {
			return token.From, api.OK
		}
	}
	return len(t.points), api.OK
}
func Prev(s string, unit int) (int, api.Errno) {
	t, e := readAround(s, unit)
	if e != api.OK {
		return 0, e
	}
	greatest := 0
	for token := range t.tokens() {
		if token.From >= unit {
			break
		}
		if token.Kind != Space {
			greatest = token.From
		}
	}
	return greatest, api.OK
}

// Breaks returns the places where lines can or must end.
func Breaks(s string) ([]Break, api.Errno) {
	t, e := read(s)
	if e != api.OK {
		return nil, e
	}
	var breaks []Break
	rules := breakRules()
	for i := 1; i < len(t.clusters); i++ {
		if kind := breakKind(rules, t.placeBefore(i)); kind != noBreak {
			breaks = append(breaks, Break{t.clusters[i].from, kind})
		}
	}
	return breaks, api.OK
}

// texts returns the strings of the tokens that are wanted.
func texts(s string, wanted func(Token) bool) ([]string, api.Errno) {
	t, e := read(s)
	if e != api.OK {
		return nil, e
	}
	var list []string
	for token := range t.tokens() {
		if wanted(token) {
			text, _ := codepoint.Make(t.points[token.From:token.To])
			list = append(list, text)
		}
	}
	return list, api.OK
}

// readAround reads a string of which unit has to be an offset.
func readAround(s string, unit int) (text, api.Errno) {
	t, e := read(s)
	if e != api.OK {
		return text{}, e
	}
	if unit < 0 || unit > len(t.points) {
		return text{}, api.ErrRange
	}
	return t, api.OK
}
