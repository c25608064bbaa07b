package numeral

import (
	"slices"
	"strings"

	"obelus/api"
)

const letterCount = 26

// symbols are what Roman numerals consist of, greater numbers first.
var symbols = [...]struct {
	symbol string
	value  int
}{
	{"m", 1000}, {"cm", 900}, {"d", 500}, {"cd", 400},
	{"c", 100}, {"xc", 90}, {"l", 50}, {"xl", 40},
	{"x", 10}, {"ix", 9}, {"v", 5}, {"iv", 4}, {"i", 1},
}

// writers returns the functions that write a number that has a numeral, by formats.
func writers() map[int]func(n int) string {
	return map[int]func(n int) string{
		api.Decimal:    decimal,
		api.LowerAlpha: letters,
		api.UpperAlpha: func(n int) string { return strings.ToUpper(letters(n)) },
		api.LowerRoman: roman,
		api.UpperRoman: func(n int) string { return strings.ToUpper(roman(n)) },
		api.Ordinal:    func(n int) string { return decimal(n) + ending(n) },
		api.Bullet:     func(int) string { return "\u2022" },
	}
}

// readers returns the functions that read a numeral, by formats. From any other string they return any number, with which Parse finds out that it is none.
func readers() map[int]func(s string) int {
	return map[int]func(s string) int{
		api.Decimal:    fromDecimal,
		api.LowerAlpha: fromLetters,
		api.UpperAlpha: func(s string) int { return fromLetters(strings.ToLower(s)) },
		api.LowerRoman: fromRoman,
		api.UpperRoman: func(s string) int { return fromRoman(strings.ToLower(s)) },
		api.Ordinal:    func(s string) int { return fromDecimal(s[:max(len(s)-len("th"), 0)]) },
	}
}

func decimal(n int) string {
	digits := []byte{byte('0' + n%10)}
	for n /= 10; n > 0; n /= 10 {
		digits = append(digits, byte('0'+n%10))
	}
	slices.Reverse(digits)
	return string(digits)
}

func fromDecimal(s string) int {
	n := 0
	for i := range len(s) {
		n = n*10 + int(s[i]) - '0'
	}
	return n
}

func letters(n int) string {
	var digits []byte
	for ; n > 0; n = (n - 1) / letterCount { // the digits begin with 1
		digits = append(digits, byte('a'+(n-1)%letterCount))
	}
	slices.Reverse(digits)
	return string(digits)
}

func fromLetters(s string) int {
	n := 0
	for i := range len(s) {
		n = n*letterCount + int(s[i]) - 'a' + 1
	}
	return n
}

func roman(n int) string {
	var numeral strings.Builder
	for _, s := range symbols {
		for ; n >= s.value; n -= s.value {
			numeral.WriteString(s.symbol)
		}
	}
	return numeral.String()
}

func fromRoman(s string) int {
	n := 0
	for _, symbol := range symbols {
		for strings.HasPrefix(s, symbol.symbol) {
			s = s[len(symbol.symbol):]
			n += symbol.value
		}
	}
	return n
}

// ending returns the letters behind the digits of an ordinal number.
func ending(n int) string {
	if n/10%10 == 1 {
		return "th"
	}
	switch n % 10 {
	case 1:
		return "st"
	case 2:
		return "nd"
	case 3:
		return "rd"
	}
	return "th"
}

// longestOf returns the first one of the longest numerals of the numbers from least to most.
func longestOf(write func(n int) string, least, most int) string {
	longest := ""
	for n := least; n <= most; n++ {
		if numeral := write(n); len(numeral) > len(longest) {
			longest = numeral
		}
	}
	return longest
}
