// Package samples makes inputs for the tests of the other packages, and tells whether their results share memory.
package samples

import (
	"iter"
	"math"
	"strconv"
	"strings"

	"obelus/api"
)

// Strings yields the concatenations of at most a number of parts, shorter ones first.
func Strings(parts []string, most int) iter.Seq[string] {
	return func(yield func(string) bool) {
		for count := range most + 1 {
			if !extend("", parts, count, yield) {
				return
			}
		}
	}
}

func extend(prefix string, parts []string, count int, yield func(string) bool) bool {
	if count == 0 {
		return yield(prefix)
	}
	for _, part := range parts {
		if !extend(prefix+part, parts, count-1, yield) {
			return false
		}
	}
	return true
}

// Units returns the units of a divisible flow, each as an item of its own.
func Units(l []api.Item) []api.Item {
	var units []api.Item
	for _, item := range l {
		if item.Kind != api.Text {
			units = append(units, item)
			continue
		}
		for _, point := range item.Text {
			item.Text = string(point)
			units = append(units, item)
		}
	}
	return units
}

// Numbers returns small numbers, and the least and greatest ones.
func Numbers() []int {
	return []int{math.MinInt, -2, -1, 0, 1, 2, 3, 4, 5, 9, math.MaxInt - 1, math.MaxInt}
}

// Classes returns the class of each number in lists of ranges, one list for each class. If two ranges overlap, ok is false.
func Classes(lists map[int]string) (classes map[int]int, ok bool) {
	classes = make(map[int]int)
	for class, list := range lists {
		for first, last := range Ranges(list) {
			for n := first; n <= last; n++ {
				if _, found := classes[n]; found {
					return nil, false
				}
				classes[n] = class
			}
		}
	}
	return classes, true
}

// Ranges yields the bounds of the ranges in a list of hexadecimal numbers as the chapters write it, like "A, C-1F".
func Ranges(list string) iter.Seq2[int, int] {
	return func(yield func(int, int) bool) {
		for _, one := range strings.Split(list, ", ") {
			first, last, found := strings.Cut(one, "-")
			if !found {
				last = first
			}
			if !yield(hexadecimal(first), hexadecimal(last)) {
				return
			}
		}
	}
}

func hexadecimal(digits string) int {
	number, err := strconv.ParseInt(digits, 16, 64)
	if err != nil {
		return -1
	}
	return int(number)
}
