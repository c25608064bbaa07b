package numeral_test

import (
	"math"
	"slices"
	"strconv"
	"strings"
	"testing"

	"obelus/api"
	"obelus/numeral"
	"obelus/samples"
)

var formats = []int{api.Decimal, api.LowerAlpha, api.UpperAlpha, api.LowerRoman, api.UpperRoman, api.Ordinal, api.Bullet}

// ranges returns the least and the greatest number of each format, as the chapter has them.
func ranges() map[int][2]int {
	return map[int][2]int{
		api.Decimal: {0, 999999}, api.Ordinal: {1, 999999}, api.Bullet: {1, 999999},
		api.LowerAlpha: {1, 999999}, api.UpperAlpha: {1, 999999}, api.LowerRoman: {1, 3999}, api.UpperRoman: {1, 3999},
	}
}

// strangeFormats returns numbers that are no formats.
func strangeFormats() []int {
	list := []int{8, 1<<32 + 1}
	for _, n := range append(samples.Numbers(), 6, 7) {
		if !slices.Contains(formats, n) {
			list = append(list, n)
		}
	}
	return list
}

// someNumbers yields numbers near all bounds of lengths and ranges, and some between.
func someNumbers() []int {
	list := samples.Numbers()
	for _, bound := range []int{0, 10, 26, 52, 100, 702, 1000, 3999, 10000, 18278, 100000, 475254, 999999, 1<<32 + 5} {
		for n := bound - 3; n <= bound+3; n++ {
			list = append(list, n)
		}
	}
	for n := 3; n < 999999; n += 997 {
		list = append(list, n)
	}
	return list
}

// naiveRoman writes a Roman numeral digit by digit, as the chapter lists them.
func naiveRoman(n int) string {
	hundreds := " c cc ccc cd d dc dcc dccc cm"
	tens := " x xx xxx xl l lx lxx lxxx xc"
	ones := " i ii iii iv v vi vii viii ix"
	digit := func(names string, digit int) string { return strings.Split(names, " ")[digit] }
	return strings.Repeat("m", n/1000) + digit(hundreds, n/100%10) + digit(tens, n/10%10) + digit(ones, n%10)
}

// naiveLetters returns the numerals of letters of 1 to most, which are counted up letter by letter.
func naiveLetters(most int) []string {
	list := []string{""}
	for i := 0; len(list) <= most; i++ {
		for letter := byte('a'); letter <= 'z'; letter++ {
			list = append(list, list[i]+string([]byte{letter}))
		}
	}
	return list[1 : most+1]
}

func naiveOrdinal(n int) string {
	s := strconv.Itoa(n)
	for _, teen := range []string{"11", "12", "13"} {
		if strings.HasSuffix(s, teen) {
			return s + "th"
		}
	}
	if ending, found := map[byte]string{'1': "st", '2': "nd", '3': "rd"}[s[len(s)-1]]; found {
		return s + ending
	}
	return s + "th"
}

func TestP1AllArguments(t *testing.T) {
	long := strings.Repeat("9", 1<<16)
	for _, format := range append(strangeFormats(), formats...) {
		for _, n := range samples.Numbers() {
			if s, e := numeral.Format(format, n); e != api.OK && s != "" {
				t.Errorf("Format(%d, %d) = %q, %d", format, n, s, e)
			}
			if s, e := numeral.Longest(format, n); e != api.OK && s != "" {
				t.Errorf("Longest(%d, %d) = %q, %d", format, n, s, e)
			}
		}
		for _, s := range []string{"", "\xFF", "\xFFth", "1h", "?", "\u212A", "\u0130", long, long + "th", strings.Repeat("m", 1<<16), strings.Repeat("Z", 1<<16)} {
			if n, e := numeral.Parse(format, s); e == api.OK || n != 0 {
				t.Errorf("Parse(%d, %.9q) = %d, %d", format, s, n, e)
			}
			if next, e := numeral.Next(format, s); e == api.OK || next != "" {
				t.Errorf("Next(%d, %.9q) = %q, %d", format, s, next, e)
			}
			if other, e := numeral.Convert(format, api.Decimal, s); e == api.OK || other != "" {
				t.Errorf("Convert(%d, 1, %.9q) = %q, %d", format, s, other, e)
			}
			numeral.Detect(s)
		}
	}
}

func TestP9_1Range(t *testing.T) {
	for format, want := range ranges() {
		if least, greatest, e := numeral.Range(format); least != want[0] || greatest != want[1] || e != api.OK {
			t.Errorf("Range(%d) = %d, %d, %d", format, least, greatest, e)
		}
	}
	for _, format := range strangeFormats() {
		if least, greatest, e := numeral.Range(format); least != 0 || greatest != 0 || e != api.ErrKind {
			t.Errorf("Range(%d) = %d, %d, %d", format, least, greatest, e)
		}
	}
	if numeral.MaxNumeral != 999999 || numeral.MaxRoman != 3999 {
		t.Error("a constant has a wrong value")
	}
}

func TestP9_1Format(t *testing.T) {
	letters := naiveLetters(numeral.MaxNumeral)
	for n := range numeral.MaxNumeral + 1 {
		if n > 5000 && n < 990000 && n%7 != 0 {
			continue
		}
		want := map[int]string{api.Decimal: strconv.Itoa(n)}
		if n > 0 {
			want[api.Ordinal], want[api.Bullet] = naiveOrdinal(n), "\u2022"
			want[api.LowerAlpha], want[api.UpperAlpha] = letters[n-1], strings.ToUpper(letters[n-1])
		}
		if n > 0 && n <= numeral.MaxRoman {
			want[api.LowerRoman], want[api.UpperRoman] = naiveRoman(n), strings.ToUpper(naiveRoman(n))
		}
		for _, format := range formats {
			numeral, found := want[format]
			checkFormat(t, format, n, numeral, found)
		}
	}
}

func checkFormat(t *testing.T, format, n int, want string, found bool) {
	t.Helper()
	wantErr := api.OK
	if !found {
		wantErr = api.ErrRange
	}
	if got, e := numeral.Format(format, n); got != want || e != wantErr {
		t.Fatalf("Format(%d, %d) = %q, %d; want %q, %d", format, n, got, e, want, wantErr)
	}
}

func TestP9_1FormatExamples(t *testing.T) {
	for _, c := range []struct {
		format, n int
		want      string
	}{
		{api.LowerRoman, 1994, "mcmxciv"}, {api.UpperAlpha, 703, "AAA"}, {api.Ordinal, 112, "112th"},
		{api.LowerAlpha, 26, "z"}, {api.LowerAlpha, 27, "aa"}, {api.LowerAlpha, 52, "az"}, {api.LowerAlpha, 53, "ba"}, {api.LowerAlpha, 702, "zz"}, {api.LowerAlpha, 703, "aaa"},
		{api.Decimal, 0, "0"}, {api.Decimal, 999999, "999999"}, {api.UpperRoman, 3999, "MMMCMXCIX"}, {api.LowerRoman, 4, "iv"}, {api.LowerRoman, 3888, "mmmdccclxxxviii"},
		{api.Ordinal, 1, "1st"}, {api.Ordinal, 2, "2nd"}, {api.Ordinal, 3, "3rd"}, {api.Ordinal, 4, "4th"}, {api.Ordinal, 10, "10th"}, {api.Ordinal, 11, "11th"}, {api.Ordinal, 12, "12th"}, {api.Ordinal, 13, "13th"}, {api.Ordinal, 21, "21st"}, {api.Ordinal, 1011, "1011th"}, {api.Ordinal, 1101, "1101st"}, {api.Ordinal, 999913, "999913th"},
		{api.Bullet, 1, "\u2022"}, {api.Bullet, 999999, "\u2022"},
	} {
		checkFormat(t, c.format, c.n, c.want, true)
	}
}

func TestP9_1FormatErrors(t *testing.T) {
	for format, bounds := range ranges() {
		for _, n := range []int{bounds[0] - 1, bounds[1] + 1, -1, 1000000, math.MinInt, math.MaxInt, 1 << 32} {
			checkFormat(t, format, n, "", false)
		}
	}
	for _, format := range strangeFormats() {
		for _, n := range []int{-1, 0, 5} {
			if s, e := numeral.Format(format, n); s != "" || e != api.ErrKind {
				t.Errorf("Format(%d, %d) = %q, %d", format, n, s, e)
			}
		}
	}
}

func TestP9_2Parse(t *testing.T) {
	for _, n := range someNumbers() {
		for _, format := range formats {
			s, e := numeral.Format(format, n)
			if e != api.OK || format == api.Bullet {
				continue
			}
			if got, e := numeral.Parse(format, s); got != n || e != api.OK {
				t.Errorf("Parse(%d, %q) = %d, %d", format, s, got, e)
			}
			for _, wrong := range []string{s + " ", " " + s, s + "\x00", "0" + s, "+" + s, "-" + s, "\u2022" + s, s + "\xFF", strings.ToTitle(s) + "!", s + "."} {
				if got, e := numeral.Parse(format, wrong); got != 0 || e != api.ErrSyntax {
					t.Errorf("Parse(%d, %q) = %d, %d", format, wrong, got, e)
				}
			}
		}
	}
}

// TestP9_2ParseShort checks all short strings over the letters of numerals: those that are numerals of some number are read, all others are wrong.
func TestP9_2ParseShort(t *testing.T) {
	known := make(map[int]map[string]int)
	for _, format := range formats[:6] {
		known[format] = make(map[string]int)
		for n := range 20000 {
			if s, e := numeral.Format(format, n); e == api.OK {
				known[format][s] = n
			}
		}
	}
	for _, parts := range [][]string{
		{"i", "v", "x", "l", "c", "d", "m"}, {"I", "V", "X", "C", "i"}, {"0", "1", "2", "9"}, {"0", "1", "2", "3", "11", "st", "nd", "rd", "th", "t"}, {"a", "z", "A", "Z", "{", "`", "@", "["},
	} {
		for s := range samples.Strings(parts, 4) {
			for format, numerals := range known {
				n, e := numeral.Parse(format, s)
				want, found := numerals[s]
				switch {
				case found && (n != want || e != api.OK), s == "" && e != api.ErrEmpty, !found && s != "" && len(s) < 4 && e != api.ErrSyntax:
					t.Fatalf("Parse(%d, %q) = %d, %d", format, s, n, e)
				}
			}
		}
	}
}

func TestP9_2ParseErrors(t *testing.T) {
	for _, c := range []struct {
		format int
		s      string
		want   api.Errno
	}{
		{0, "", api.ErrKind}, {8, "1", api.ErrKind}, {-1, "\xFF", api.ErrKind}, {api.Bullet, "", api.ErrKind}, {api.Bullet, "\u2022", api.ErrKind}, {api.Bullet, "1", api.ErrKind},
		{api.Decimal, "", api.ErrEmpty}, {api.Ordinal, "", api.ErrEmpty}, {api.UpperRoman, "", api.ErrEmpty}, {api.LowerAlpha, "", api.ErrEmpty},
		{api.Decimal, "00", api.ErrSyntax}, {api.Decimal, "01", api.ErrSyntax}, {api.Decimal, "1000000", api.ErrSyntax}, {api.Decimal, "a", api.ErrSyntax}, {api.Decimal, "1st", api.ErrSyntax},
		{api.Decimal, "18446744073709551617", api.ErrSyntax}, // 1 behind 2 to the 64
		{api.Ordinal, "1", api.ErrSyntax}, {api.Ordinal, "0th", api.ErrSyntax}, {api.Ordinal, "1th", api.ErrSyntax}, {api.Ordinal, "11st", api.ErrSyntax}, {api.Ordinal, "1ST", api.ErrSyntax}, {api.Ordinal, "th", api.ErrSyntax}, {api.Ordinal, "01st", api.ErrSyntax}, {api.Ordinal, "1000000th", api.ErrSyntax},
		{api.LowerRoman, "iiii", api.ErrSyntax}, {api.LowerRoman, "im", api.ErrSyntax}, {api.LowerRoman, "vv", api.ErrSyntax}, {api.LowerRoman, "ixi", api.ErrSyntax}, {api.LowerRoman, "mmmm", api.ErrSyntax}, {api.LowerRoman, "X", api.ErrSyntax}, {api.LowerRoman, "0", api.ErrSyntax},
		{api.UpperRoman, "x", api.ErrSyntax}, {api.UpperRoman, "Xi", api.ErrSyntax}, {api.UpperRoman, "IM", api.ErrSyntax},
		{api.LowerAlpha, "A", api.ErrSyntax}, {api.LowerAlpha, "a1", api.ErrSyntax}, {api.LowerAlpha, "zzzzz", api.ErrSyntax}, {api.LowerAlpha, "\u00E9", api.ErrSyntax},
		{api.UpperAlpha, "a", api.ErrSyntax}, {api.UpperAlpha, "Ab", api.ErrSyntax}, {api.UpperAlpha, "\u212A", api.ErrSyntax}, // the sign of kelvins
	} {
		if n, e := numeral.Parse(c.format, c.s); n != 0 || e != c.want {
			t.Errorf("Parse(%d, %q) = %d, %d; want %d", c.format, c.s, n, e, c.want)
		}
		if s, e := numeral.Next(c.format, c.s); s != "" || e != c.want {
			t.Errorf("Next(%d, %q) = %q, %d; want %d", c.format, c.s, s, e, c.want)
		}
		for _, to := range []int{0, api.Decimal, api.Bullet} {
			if s, e := numeral.Convert(c.format, to, c.s); s != "" || e != c.want {
				t.Errorf("Convert(%d, %d, %q) = %q, %d; want %d", c.format, to, c.s, s, e, c.want)
			}
		}
	}
}

func TestP9_3Next(t *testing.T) {
	for _, c := range []struct {
		format  int
		s, want string
		e       api.Errno
	}{
		{api.Decimal, "0", "1", api.OK}, {api.Decimal, "9", "10", api.OK}, {api.Decimal, "999998", "999999", api.OK}, {api.Decimal, "999999", "", api.ErrRange},
		{api.LowerAlpha, "z", "aa", api.OK}, {api.UpperAlpha, "AZ", "BA", api.OK}, {api.LowerAlpha, "zz", "aaa", api.OK},
		{api.LowerRoman, "iii", "iv", api.OK}, {api.UpperRoman, "CMXCIX", "M", api.OK}, {api.UpperRoman, "MMMCMXCIX", "", api.ErrRange}, {api.LowerRoman, "mmmcmxcix", "", api.ErrRange},
		{api.Ordinal, "1st", "2nd", api.OK}, {api.Ordinal, "10th", "11th", api.OK}, {api.Ordinal, "999999th", "", api.ErrRange},
	} {
		if s, e := numeral.Next(c.format, c.s); s != c.want || e != c.e {
			t.Errorf("Next(%d, %q) = %q, %d", c.format, c.s, s, e)
		}
	}
	for _, format := range []int{api.LowerAlpha, api.UpperAlpha} {
		last, _ := numeral.Format(format, 999999)
		if s, e := numeral.Next(format, last); s != "" || e != api.ErrRange {
			t.Errorf("Next(%d, %q) = %q, %d", format, last, s, e)
		}
	}
}

func TestP9_3Convert(t *testing.T) {
	for _, n := range someNumbers() {
		for _, from := range formats[:6] {
			s, e := numeral.Format(from, n)
			if e != api.OK {
				continue
			}
			for _, to := range append(strangeFormats(), formats...) {
				want, wantErr := numeral.Format(to, n)
				if got, e := numeral.Convert(from, to, s); got != want || e != wantErr {
					t.Errorf("Convert(%d, %d, %q) = %q, %d", from, to, s, got, e)
				}
			}
		}
	}
	if s, e := numeral.Convert(api.Decimal, api.UpperRoman, "4000"); s != "" || e != api.ErrRange {
		t.Errorf("Convert of 4000 = %q, %d", s, e)
	}
	if s, e := numeral.Convert(api.Decimal, api.Bullet, "0"); s != "" || e != api.ErrRange {
		t.Errorf("Convert of 0 = %q, %d", s, e)
	}
}

func TestP9_4Detect(t *testing.T) {
	for s, want := range map[string][]int{
		"c": {api.LowerAlpha, api.LowerRoman}, "C": {api.UpperAlpha, api.UpperRoman}, "ab": {api.LowerAlpha}, "mmmm": {api.LowerAlpha}, "3": {api.Decimal}, "3rd": {api.Ordinal},
		"mmmdccclxxxviii": {api.LowerRoman}, "": nil, "\u2022": nil, "xI": nil, "0": {api.Decimal}, "1000000": nil, "\xFF": nil,
	} {
		if got := numeral.Detect(s); !slices.Equal(got, want) {
			t.Errorf("Detect(%q) = %d; want %d", s, got, want)
		}
	}
	for s := range samples.Strings([]string{"i", "x", "c", "D", "M", "1", "3", "rd", "th"}, 3) {
		var want []int
		for _, format := range formats {
			if _, e := numeral.Parse(format, s); e == api.OK {
				want = append(want, format)
			}
		}
		if got := numeral.Detect(s); !slices.Equal(got, want) {
			t.Errorf("Detect(%q) = %d; want %d", s, got, want)
		}
	}
}

func TestP9_5Longest(t *testing.T) {
	for format, bounds := range ranges() {
		longest := ""
		for n := bounds[0]; n <= min(bounds[1], 12000); n++ {
			if s, _ := numeral.Format(format, n); len(s) > len(longest) {
				longest = s
			}
			if n > 300 && n < 9990 && n%89 != 0 {
				continue
			}
			if got, e := numeral.Longest(format, n); got != longest || e != api.OK {
				t.Fatalf("Longest(%d, %d) = %q, %d; want %q", format, n, got, e, longest)
			}
		}
		for _, n := range []int{bounds[0] - 1, bounds[1] + 1, math.MinInt, math.MaxInt} {
			if got, e := numeral.Longest(format, n); got != "" || e != api.ErrRange {
				t.Errorf("Longest(%d, %d) = %q, %d", format, n, got, e)
			}
		}
	}
	for _, format := range strangeFormats() {
		for _, n := range []int{-1, 1} {
			if got, e := numeral.Longest(format, n); got != "" || e != api.ErrKind {
				t.Errorf("Longest(%d, %d) = %q, %d", format, n, got, e)
			}
		}
	}
}

func TestP9_5LongestExamples(t *testing.T) {
	for _, c := range []struct {
		format, most int
		want         string
	}{
		{api.LowerRoman, 10, "viii"}, {api.Decimal, 9, "0"}, {api.Decimal, 0, "0"}, {api.Decimal, 999999, "100000"}, {api.Ordinal, 9, "1st"}, {api.Ordinal, 999999, "100000th"},
		{api.LowerAlpha, 26, "a"}, {api.UpperAlpha, 27, "AA"}, {api.LowerAlpha, 999999, "aaaaa"}, {api.UpperRoman, 3999, "MMMDCCCLXXXVIII"}, {api.UpperRoman, 3888, "MMMDCCCLXXXVIII"}, {api.Bullet, 999999, "\u2022"},
	} {
		if got, e := numeral.Longest(c.format, c.most); got != c.want || e != api.OK {
			t.Errorf("Longest(%d, %d) = %q, %d; want %q", c.format, c.most, got, e, c.want)
		}
	}
}

func TestP9_6Consequences(t *testing.T) {
	type pair struct{ lower, upper int }
	for n := 1; n <= numeral.MaxRoman; n++ {
		for _, p := range []pair{{api.LowerAlpha, api.UpperAlpha}, {api.LowerRoman, api.UpperRoman}} {
			lower, _ := numeral.Format(p.lower, n)
			upper, _ := numeral.Format(p.upper, n)
			if strings.ToUpper(lower) != upper || strings.ToLower(upper) != lower || lower == upper {
				t.Errorf("the numerals of %d: %q, %q", n, lower, upper)
			}
		}
		roman, _ := numeral.Format(api.LowerRoman, n)
		for _, letter := range "mdclxvi" {
			if strings.Contains(roman, strings.Repeat(string(letter), 4)) {
				t.Errorf("the Roman numeral of %d is %q", n, roman)
			}
		}
	}
	for _, format := range []int{api.Decimal, api.LowerAlpha, api.UpperAlpha} {
		last, _ := numeral.Format(format, 1)
		for n := 2; n <= 30000; n++ {
			s, _ := numeral.Format(format, n)
			if len(s) < len(last) || len(s) == len(last) && s <= last {
				t.Fatalf("in the format %d, %q stands behind %q", format, s, last)
			}
			last = s
		}
	}
}
