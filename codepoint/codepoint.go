// Package codepoint decodes and encodes UTF-8, and converts between byte offsets and units (layer 1, see shared/doc/01-codepoint.md).
package codepoint

import (
	"strings"

	"obelus/api"
)

// MaxPoint is the greatest code point.
const MaxPoint = 0x10FFFF

const replacement = "\uFFFD"

// IsPoint reports whether a number is a code point (no surrogate).
func IsPoint(p int) bool {
	return 0 <= p && p <= MaxPoint && p>>11 != 0xD800>>11
}

// Valid reports whether a string is valid UTF-8, and First returns the byte offset of the first error, or -1.
func Valid(s string) bool { return First(s) < 0 }
func First(s string) int {
	for at := 0; at < len(s); {
		_, size, ok := scan(s, at)
		if !ok {
			return at
		}
		at += size
	}
	return -1
}

// Count returns the number of code points of a string, and Points returns them.
func Count(s string) (int, api.Errno) {
	if !Valid(s) {
		return 0, api.ErrUTF8
	}
	count := 0
	for at := 0; at < len(s); at += width(s[at]) {
		count++
	}
	return count, api.OK
}
func Points(s string) ([]int, api.Errno) {
	count, e := Count(s)
	if e != api.OK {
		return nil, e
	}
	points := make([]int, 0, count)
	for at := 0; at < len(s); {
		point, size, _ := scan(s, at)
		points = append(points, point)
		at += size
	}
	return points, api.OK
}

// Make returns the string with some code points.
func Make(points []int) (string, api.Errno) {
	bytes := make([]byte, 0, len(points))
	for _, p := range points {
		if !IsPoint(p) {
			return "", api.ErrRange
		}
		bytes = appendEncoding(bytes, p)
	}
	return string(bytes), api.OK
}

// At returns the code point that begins at a byte offset, and the number of its bytes.
func At(s string, offset int) (point, size int, e api.Errno) {
	if offset < 0 || offset >= len(s) {
		return 0, 0, api.ErrRange
	}
	point, size, ok := scan(s, offset)
	if !ok {
		return 0, 0, api.ErrUTF8
	}
	return point, size, api.OK
}

// Offset returns the byte offset of a unit, and Unit the unit at a byte offset.
func Offset(s string, unit int) (int, api.Errno) {
	if !Valid(s) {
		return 0, api.ErrUTF8
	}
	if unit < 0 {
		return 0, api.ErrRange
	}
	at := 0
	for unit > 0 && at < len(s) {
		at += width(s[at])
		unit--
	}
	if unit > 0 {
		return 0, api.ErrRange
	}
	return at, api.OK
}
func Unit(s string, offset int) (int, api.Errno) {
	if !Valid(s) {
		return 0, api.ErrUTF8
	}
	if offset < 0 || offset > len(s) {
		return 0, api.ErrRange
	}
	unit, at := 0, 0
	for at < offset {
		at += width(s[at])
		unit++
	}
	if at > offset {
		return 0, api.ErrRange
	}
	return unit, api.OK
}

// Slice returns the units from from on, before to.
func Slice(s string, from, to int) (string, api.Errno) {
	start, e := Offset(s, from)
	if e != api.OK {
		return "", e
	}
	if to < from {
		return "", api.ErrRange
	}
	size, e := Offset(s[start:], to-from)
	if e != api.OK {
		return "", e
	}
	return strings.Clone(s[start : start+size]), api.OK
}

// Repair returns a valid string in which whatever is not valid is replaced by U+FFFD.
func Repair(s string) string {
	var repaired strings.Builder
	for at := 0; at < len(s); {
		_, size, ok := scan(s, at)
		if ok {
			repaired.WriteString(s[at : at+size])
		} else {
			repaired.WriteString(replacement)
		}
		at += max(size, 1)
	}
	return repaired.String()
}

// Fold returns a string in which the ASCII capital letters are replaced by small ones.
func Fold(s string) string {
	bytes := []byte(s)
	for i, b := range bytes {
		if 'A' <= b && b <= 'Z' {
			bytes[i] = b + ('a' - 'A')
		}
	}
	return string(bytes)
}

// IsName reports whether a string is a name.
func IsName(s string) bool {
	if len(s) == 0 || len(s) > api.MaxName || !isLetter(s[0]) {
		return false
	}
	for i := 1; i < len(s); i++ {
		if !isLetter(s[i]) && !isDigit(s[i]) && s[i] != '-' && s[i] != '_' {
			return false
		}
	}
	return true
}

func isLetter(b byte) bool { return 'a' <= b && b <= 'z' || 'A' <= b && b <= 'Z' }
func isDigit(b byte) bool  { return '0' <= b && b <= '9' }
