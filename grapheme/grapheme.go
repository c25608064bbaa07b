// Package grapheme divides strings into extended grapheme clusters, the characters that users see. It is layer 2: see shared/doc/02-grapheme.md.
package grapheme

import (
	"strings"
	"unicode/utf8"

	"obelus/api"
)

// The classes of code points.
const (
	Other        = 0
	CR           = 1
	LF           = 2
	Control      = 3
	Extend       = 4
	Joiner       = 5
	Prepend      = 6
	Spacing      = 7
	L            = 8
	V            = 9
	T            = 10
	LV           = 11
	LVT          = 12
	Regional     = 13
	Pictographic = 14
)

// Class returns the class of a code point.
func Class(point int) int { return classIn(classTable(), point) }

// Boundaries returns the offsets of all cluster boundaries, in increasing order.
func Boundaries(s string) ([]int, api.Errno) {
	if !utf8.ValidString(s) {
		return nil, api.ErrUTF8
	}
	boundaries := []int{0}
	for c := range clusters(s) {
		boundaries = append(boundaries, c.to)
	}
	return boundaries, api.OK
}

// Clusters returns the clusters of a string, in order, and Count their number.
func Clusters(s string) ([]string, api.Errno) {
	if !utf8.ValidString(s) {
		return nil, api.ErrUTF8
	}
	var list []string
	for c := range clusters(s) {
		list = append(list, strings.Clone(c.text))
	}
	return list, api.OK
}
func Count(s string) (int, api.Errno) {
	if !utf8.ValidString(s) {
		return 0, api.ErrUTF8
	}
	count := 0
	for range clusters(s) {
		count++
	}
	return count, api.OK
}

// IsBoundary reports whether there is a boundary at an offset.
func IsBoundary(s string, at int) (bool, api.Errno) {
	if e := check(s, at); e != api.OK {
		return false, e
	}
	return floor(s, at) == at, api.OK
}

// Next returns the least boundary that is greater than an offset, and Prev the greatest one that is less.
func Next(s string, at int) (int, api.Errno) {
	if e := check(s, at); e != api.OK {
		return 0, e
	}
	for c := range clusters(s) {
		if c.to > at {
			return c.to, api.OK
		}
	}
	return at, api.OK
}
func Prev(s string, at int) (int, api.Errno) {
	if e := check(s, at); e != api.OK {
		return 0, e
	}
	return floor(s, at-1), api.OK
}

// Floor returns the greatest boundary that is not greater than an offset.
func Floor(s string, at int) (int, api.Errno) {
	if e := check(s, at); e != api.OK {
		return 0, e
	}
	return floor(s, at), api.OK
}

// Truncate returns the longest prefix that consists of at most a number of clusters.
func Truncate(s string, n int) (string, api.Errno) {
	if !utf8.ValidString(s) {
		return "", api.ErrUTF8
	}
	if n < 0 {
		return "", api.ErrRange
	}
	size := 0
	for c := range clusters(s) {
		if n == 0 {
			break
		}
		n--
		size += len(c.text)
	}
	return strings.Clone(s[:size]), api.OK
}

// check returns the error of the functions that take an offset.
func check(s string, at int) api.Errno {
	if !utf8.ValidString(s) {
		return api.ErrUTF8
	}
	if at < 0 || at > utf8.RuneCountInString(s) {
		return api.ErrRange
	}
	return api.OK
}

// floor returns the greatest boundary that is at most at, or 0 if there is none.
func floor(s string, at int) int {
	greatest := 0
	for c := range clusters(s) {
		if c.to > at {
			break
		}
		greatest = c.to
	}
	return greatest
}
