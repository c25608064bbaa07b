package leveltext_test

import (
	"math"
	"slices"
	"strconv"
	"strings"
	"testing"
	"unicode/utf8"

	"obelus/api"
	"obelus/leveltext"
	"obelus/numeral"
	"obelus/samples"
)

func literal(s string) leveltext.Part            { return leveltext.Part{Literal: s} }
func place(level int) leveltext.Part             { return leveltext.Part{Level: level} }
func plain(level int) leveltext.Part             { return leveltext.Part{Level: level, Plain: true} }
func parts(l ...leveltext.Part) []leveltext.Part { return l }

// level returns a level with a format and a template.
func level(format int, template string) api.Level {
	return api.Level{Format: format, Start: 1, Template: template}
}

// levels returns levels with some formats, of which the last one has the template.
func levels(template string, formats ...int) []api.Level {
	var l []api.Level
	for _, format := range formats {
		l = append(l, level(format, ""))
	}
	l[len(l)-1].Template = template
	return l
}

// pieces are what templates are made of in tests: each percent sign of theirs is right.
func pieces() []string { return []string{"%1", "%d2", "%9", "%%", "d", "1", "\u00E9"} }

// wrong lists templates with their errors.
func wrong() map[string]api.Errno {
	places := strings.Repeat("%1", 10)
	return map[string]api.Errno{
		"%0": api.ErrSyntax, "%": api.ErrSyntax, "%d": api.ErrSyntax, "%d0": api.ErrSyntax, "%a": api.ErrSyntax, "a%": api.ErrSyntax, "%1%": api.ErrSyntax, "%%%": api.ErrSyntax, "% 1": api.ErrSyntax, "%d%1": api.ErrSyntax, "%dd1": api.ErrSyntax, "%D1": api.ErrSyntax, "%\u0661": api.ErrSyntax, "%:": api.ErrSyntax, "%/": api.ErrSyntax,
		"\xFF": api.ErrUTF8, "%1\xC3": api.ErrUTF8, "\xED\xA0\x80": api.ErrUTF8, "\xC0\x80": api.ErrUTF8, "\xFF\x01%": api.ErrUTF8,
		"\x00": api.ErrValue, "a\x1Fb": api.ErrValue, "\x7F": api.ErrValue, "\n%": api.ErrValue, "%\t1": api.ErrValue, "\x01" + places: api.ErrValue,
		strings.Repeat("a", 65): api.ErrLong, strings.Repeat("\xFF", 65): api.ErrLong, strings.Repeat("%", 65): api.ErrLong, strings.Repeat("\x01", 65): api.ErrLong, strings.Repeat("\u00E9", 33): api.ErrLong,
		places: api.ErrLimit, strings.Repeat("%d9,", 10): api.ErrLimit, places + "%": api.ErrSyntax,
	}
}

func TestP1AllArguments(t *testing.T) {
	var strange [][]api.Level
	for _, n := range samples.Numbers() {
		strange = append(strange, []api.Level{{Format: n, Start: n, Template: "%1", Restart: n}}, []api.Level{{Format: 1, Start: n}, {Format: 7, Restart: n}}, make([]api.Level, 10))
	}
	strange = append(strange, nil, []api.Level{}, levels("%1%d2", 7, 3))
	for _, n := range samples.Numbers() {
		for _, l := range strange {
			if s, e := leveltext.Fill(l, n, []int{n, n, n}); e != api.OK && s != "" {
				t.Errorf("Fill(%v, %d) = %q, %d", l, n, s, e)
			}
			if is, e := leveltext.Fits(l, n, "\xFF\x00"); is || e == api.OK && n != 1 && n != 2 {
				t.Errorf("Fits(%v, %d) = %v, %d", l, n, is, e)
			}
		}
		for template := range wrong() {
			leveltext.Check(template, n)
			leveltext.Shift(template, n)
		}
		if s, e := leveltext.Print(parts(literal("\xFF"), place(n), leveltext.Part{Literal: "x", Level: n, Plain: true})); s != "" || e != api.ErrFormat {
			t.Errorf("Print = %q, %d", s, e)
		}
	}
}

func TestP10_1Parse(t *testing.T) {
	for _, c := range []struct {
		template string
		want     []leveltext.Part
	}{
		{"", nil},
		{"%1.%d2)", parts(place(1), literal("."), plain(2), literal(")"))},
		{"100%%", parts(literal("100%"))},
		{"%%", parts(literal("%"))},
		{"%%%%1", parts(literal("%%1"))},
		{"%%%1", parts(literal("%"), place(1))},
		{"%1%%d2", parts(place(1), literal("%d2"))},
		{"%d9d9", parts(plain(9), literal("d9"))},
		{"%12", parts(place(1), literal("2"))},
		{"%1%2", parts(place(1), place(2))},
		{"%1%1%d1", parts(place(1), place(1), plain(1))},
		{"a %1 b", parts(literal("a "), place(1), literal(" b"))},
		{"(\u00A7\U0001F600%3", parts(literal("(\u00A7\U0001F600"), place(3))},
		{"\u0080~ ", parts(literal("\u0080~ "))}, // U+0080 is no control character here
		{strings.Repeat("%9", 9), parts(place(9), place(9), place(9), place(9), place(9), place(9), place(9), place(9), place(9))},
		{strings.Repeat("a", 64), parts(literal(strings.Repeat("a", 64)))},
		{strings.Repeat("%%", 32), parts(literal(strings.Repeat("%", 32)))},
	} {
		if got, e := leveltext.Parse(c.template); !slices.Equal(got, c.want) || e != api.OK {
			t.Errorf("Parse(%q) = %v, %d; want %v", c.template, got, e, c.want)
		}
	}
	for digit := 1; digit <= 9; digit++ {
		n := strconv.Itoa(digit)
		if got, e := leveltext.Parse("%" + n + "%d" + n); !slices.Equal(got, parts(place(digit), plain(digit))) || e != api.OK {
			t.Errorf("the level %d: %v, %d", digit, got, e)
		}
	}
	if leveltext.MaxTemplate != 64 || leveltext.MaxPlaces != 9 || leveltext.MaxLabel != 256 {
		t.Error("a constant has a wrong value")
	}
}

func TestP10_1ParseErrors(t *testing.T) {
	for template, want := range wrong() {
		if got, e := leveltext.Parse(template); len(got) != 0 || e != want {
			t.Errorf("Parse(%q) = %v, %d; want %d", template, got, e, want)
		}
	}
	for b := range 0x80 {
		want := api.OK
		switch {
		case b < 0x20 || b == 0x7F:
			want = api.ErrValue
		case b == '%':
			want = api.ErrSyntax
		}
		if _, e := leveltext.Parse("a" + string([]byte{byte(b)})); e != want {
			t.Errorf("Parse of a string with the byte %#x: %d; want %d", b, e, want)
		}
	}
}

func TestP10_2Print(t *testing.T) {
	for _, l := range [][]leveltext.Part{
		parts(literal("")), parts(literal("a"), literal("b")), parts(place(10)), parts(place(-1)), parts(plain(0)), parts(leveltext.Part{Literal: "a", Plain: true}),
		parts(leveltext.Part{Literal: "a", Level: 1}), parts(literal("\xFF")), parts(literal("\xC3"), literal("\xA9")), parts(literal("a\n")), parts(literal("\x7F")),
		parts(literal(strings.Repeat("a", 65))), parts(literal(strings.Repeat("%", 33))), slices.Repeat(parts(place(1)), 10), parts(place(10), literal("1")), parts(place(12)), parts(plain(math.MinInt)), parts(place(256 + 1)), parts(place(11), place(1)),
		parts(literal("a"), literal(""), place(1)),
	} {
		if s, e := leveltext.Print(l); s != "" || e != api.ErrFormat {
			t.Errorf("Print(%v) = %q, %d", l, s, e)
		}
	}
	for _, c := range []struct {
		l    []leveltext.Part
		want string
	}{
		{nil, ""}, {parts(), ""}, {parts(literal("100%")), "100%%"}, {parts(place(1), literal("."), plain(2), literal(")")), "%1.%d2)"},
		{parts(literal("%"), place(9)), "%%%9"}, {parts(literal("%d1")), "%%d1"}, {parts(literal(strings.Repeat("a", 64))), strings.Repeat("a", 64)}, {slices.Repeat(parts(plain(3)), 9), strings.Repeat("%d3", 9)},
	} {
		if s, e := leveltext.Print(c.l); s != c.want || e != api.OK {
			t.Errorf("Print(%v) = %q, %d; want %q", c.l, s, e, c.want)
		}
	}
}

func TestP10_2Used(t *testing.T) {
	for template, want := range map[string][]int{
		"": nil, "abc": nil, "%%1": nil, "%1": {1}, "%d1": {1}, "%9%d1-%9%5": {1, 5, 9}, "%3%3%d3": {3}, "%9%8%7%6%5%4%3%2%1": {1, 2, 3, 4, 5, 6, 7, 8, 9},
	} {
		if got, e := leveltext.Used(template); !slices.Equal(got, want) || e != api.OK {
			t.Errorf("Used(%q) = %d, %d", template, got, e)
		}
	}
	for template, want := range wrong() {
		if got, e := leveltext.Used(template); len(got) != 0 || e != want {
			t.Errorf("Used(%q) = %d, %d; want %d", template, got, e, want)
		}
	}
}

func TestP10_3Shift(t *testing.T) {
	for _, c := range []struct {
		template string
		by       int
		want     string
		e        api.Errno
	}{
		{"%1.%d2", 1, "%2.%d3", api.OK}, {"%1.%d2", 7, "%8.%d9", api.OK}, {"%1.%d2", 8, "", api.ErrRange}, {"%1.%d2", -1, "", api.ErrRange}, {"%9%%1", -8, "%1%%1", api.OK}, {"%9", -9, "", api.ErrRange}, {"%2%1", 0, "%2%1", api.OK},
		{"%1", math.MaxInt, "", api.ErrRange}, {"%9", math.MinInt, "", api.ErrRange}, {"%5", 1 << 32, "", api.ErrRange}, {"%5%1", -4, "", api.ErrRange}, {"%5%9", 1, "", api.ErrRange},
		{"", 100, "", api.OK}, {"a%%", math.MinInt, "a%%", api.OK}, {"1%%1", math.MaxInt, "1%%1", api.OK},
	} {
		if s, e := leveltext.Shift(c.template, c.by); s != c.want || e != c.e {
			t.Errorf("Shift(%q, %d) = %q, %d; want %q, %d", c.template, c.by, s, e, c.want, c.e)
		}
	}
	for template, want := range wrong() {
		for _, by := range []int{0, 1, 100} {
			if s, e := leveltext.Shift(template, by); s != "" || e != want {
				t.Errorf("Shift(%q, %d) = %q, %d; want %d", template, by, s, e, want)
			}
		}
	}
}

func TestP10_4Check(t *testing.T) {
	for _, c := range []struct {
		template string
		level    int
		want     api.Errno
	}{
		{"%1", 1, api.OK}, {"%2", 1, api.ErrOrder}, {"%d2", 1, api.ErrOrder}, {"%1%d2", 2, api.OK}, {"%9", 9, api.OK}, {"%9", 8, api.ErrOrder}, {"", 1, api.OK}, {"%%9", 1, api.OK}, {"%2%1", 1, api.ErrOrder},
		{"%1", 0, api.ErrRange}, {"%", 10, api.ErrRange}, {"%1", -1, api.ErrRange}, {"\xFF", math.MinInt, api.ErrRange}, {"", math.MaxInt, api.ErrRange}, {"%9%", 1, api.ErrSyntax}, {"%9" + strings.Repeat("%1", 9), 1, api.ErrLimit},
	} {
		if e := leveltext.Check(c.template, c.level); e != c.want {
			t.Errorf("Check(%q, %d) = %d; want %d", c.template, c.level, e, c.want)
		}
	}
	for template, want := range wrong() {
		if e := leveltext.Check(template, 1); e != want {
			t.Errorf("Check(%q, 1) = %d; want %d", template, e, want)
		}
	}
}

func TestP10_4CheckLevels(t *testing.T) {
	good := level(api.Decimal, "%1")
	nine := slices.Repeat([]api.Level{good}, 9)
	for i, c := range []struct {
		l    []api.Level
		want api.Errno
	}{
		{nil, api.ErrEmpty}, {[]api.Level{}, api.ErrEmpty}, {nine, api.OK}, {append(slices.Clone(nine), good), api.ErrLimit}, {make([]api.Level, 10), api.ErrLimit},
		{[]api.Level{{Format: 0, Start: -1}}, api.ErrKind}, {[]api.Level{{Format: 8, Template: "%"}}, api.ErrKind}, {[]api.Level{{Format: -1}}, api.ErrKind}, {[]api.Level{{Format: 7}}, api.OK}, {[]api.Level{{Format: 1}}, api.OK},
		{[]api.Level{{Format: 1, Start: -1, Template: "%"}}, api.ErrRange}, {[]api.Level{{Format: 1, Start: 32768, Restart: 1}}, api.ErrRange}, {[]api.Level{{Format: 1, Start: 32767}}, api.OK}, {[]api.Level{{Format: 1, Start: 0}}, api.OK},
		{[]api.Level{{Format: 1, Template: "%2", Restart: 1}}, api.ErrOrder}, {[]api.Level{{Format: 1, Template: "%", Restart: -1}}, api.ErrSyntax}, {[]api.Level{good, {Format: 1, Template: "%2%d1"}}, api.OK}, {[]api.Level{good, {Format: 1, Template: "%3"}}, api.ErrOrder},
		{[]api.Level{{Format: 1, Restart: 1}}, api.ErrValue}, {[]api.Level{{Format: 1, Restart: -1}}, api.ErrValue}, {[]api.Level{good, {Format: 1, Restart: 1}}, api.OK}, {[]api.Level{good, {Format: 1, Restart: 2}}, api.ErrValue}, {append(nine[:8:8], api.Level{Format: 1, Restart: 8}), api.OK}, {append(nine[:8:8], api.Level{Format: 1, Restart: 9}), api.ErrValue},
		{[]api.Level{{Format: 1, Restart: 1}, {Format: 0}}, api.ErrValue}, {[]api.Level{good, {Format: 0}, {Format: 1, Start: -1}}, api.ErrKind}, {[]api.Level{good, good, {Format: 1, Template: "%d4"}}, api.ErrOrder},
	} {
		if e := leveltext.CheckLevels(c.l); e != c.want {
			t.Errorf("%d: CheckLevels = %d; want %d", i, e, c.want)
		}
		// Fill and Fits return this error first.
		if c.want == api.OK {
			continue
		}
		if s, e := leveltext.Fill(c.l, -1, nil); s != "" || e != c.want {
			t.Errorf("%d: Fill = %q, %d; want %d", i, s, e, c.want)
		}
		if is, e := leveltext.Fits(c.l, -1, strings.Repeat("a", 257)); is || e != c.want {
			t.Errorf("%d: Fits = %v, %d; want %d", i, is, e, c.want)
		}
	}
	for template, want := range wrong() {
		if e := leveltext.CheckLevels([]api.Level{good, level(1, template)}); e != want {
			t.Errorf("CheckLevels with %q = %d; want %d", template, e, want)
		}
	}
}

func TestP10_5Fill(t *testing.T) {
	for _, c := range []struct {
		l       []api.Level
		numbers []int
		want    string
	}{
		{levels("%1-%2", api.UpperRoman, api.LowerAlpha), []int{4, 28}, "IV-ab"},
		{levels("%d1-%2", api.UpperRoman, api.LowerAlpha), []int{4, 28}, "4-ab"},
		{levels("%1-%2", api.UpperRoman, api.LowerAlpha), []int{4000, 0}, "4000-0"},
		{levels("%1.", api.Decimal), []int{7}, "7."},
		{levels("%1.", api.Decimal), []int{7, 8, 9}, "7."},
		{levels("(%d1%%)", api.Bullet), []int{7}, "(7%)"},
		{levels("%1%1", api.Bullet), []int{7}, "\u2022\u2022"},
		{levels("%1", api.Bullet), []int{0}, "0"},
		{levels("%1", api.Ordinal), []int{0}, "0"},
		{levels("%2 %1", api.LowerRoman, api.Ordinal), []int{9, 22}, "22nd ix"},
		{levels("%1 %2 %3", api.LowerRoman, api.Ordinal, api.Decimal), []int{3999, 999999, 999999}, "mmmcmxcix 999999th 999999"},
		{levels("%1 %2 %3", api.LowerRoman, api.Bullet, api.Decimal), []int{1000000, -1, math.MaxInt}, "? ? ?"},
		{levels("%d1%d2", api.LowerRoman, api.Ordinal), []int{math.MinInt, 1000000}, "??"},
		{levels("", api.Decimal), []int{1}, ""},
		{levels("Chapter", api.Decimal), []int{-5}, "Chapter"},
		{levels("%3", 1, 1, 1), []int{-1, 1 << 40, 5}, "5"},
		{levels("%9%8%7%6%5%4%3%2%1", 1, 1, 1, 1, 1, 1, 1, 1, 1), []int{1, 2, 3, 4, 5, 6, 7, 8, 9}, "987654321"},
	} {
		if s, e := leveltext.Fill(c.l, len(c.l), c.numbers); s != c.want || e != api.OK {
			t.Errorf("Fill(%v, %d) = %q, %d; want %q", c.l, c.numbers, s, e, c.want)
		}
	}
	three := []api.Level{level(api.UpperRoman, "%1"), level(api.Decimal, "%1/%2"), level(api.LowerAlpha, "%3.")}
	for k, want := range []string{"II", "II/3", "d."} {
		if s, e := leveltext.Fill(three, k+1, []int{2, 3, 4}[:k+1]); s != want || e != api.OK {
			t.Errorf("the level %d: %q, %d", k+1, s, e)
		}
	}
}

func TestP10_5FillErrors(t *testing.T) {
	three := []api.Level{level(api.UpperRoman, "%1"), level(api.Decimal, "x"), level(api.LowerAlpha, "%3.")}
	for _, c := range []struct {
		level   int
		numbers []int
		want    api.Errno
	}{
		{0, nil, api.ErrRange}, {4, nil, api.ErrRange}, {-1, []int{1}, api.ErrRange}, {math.MaxInt, nil, api.ErrRange}, {math.MinInt, nil, api.ErrRange},
		{1, nil, api.ErrEmpty}, {1, []int{}, api.ErrEmpty}, {2, []int{1}, api.ErrEmpty}, {3, []int{1, 2}, api.ErrEmpty}, {3, []int{1, 2, 3}, api.OK},
	} {
		if s, e := leveltext.Fill(three, c.level, c.numbers); e != c.want || e != api.OK && s != "" {
			t.Errorf("Fill(%d, %d) = %q, %d; want %d", c.level, c.numbers, s, e, c.want)
		}
	}
}

func TestP10_6Fits(t *testing.T) {
	letters := []int{api.UpperRoman, api.LowerAlpha}
	for _, c := range []struct {
		template string
		formats  []int
		label    string
		want     bool
	}{
		{"%1-%2", letters, "IV-ab", true}, {"%1-%2", letters, "IIII-ab", false}, {"%1-%2", letters, "0-a", true}, {"%1-%2", letters, "5-a", false}, {"%1-%2", letters, "3999-a", false}, {"%1-%2", letters, "4000-0", true}, {"%1-%2", letters, "IV-5", false}, {"%1-%2", letters, "IV-", false}, {"%1-%2", letters, "iv-ab", false}, {"%1-%2", letters, "1000000-a", false}, {"%1-%2", letters, "999999-a", true}, {"%1-%2", letters, "?-a", false},
		{"%d1.%d2", letters, "1.2", true}, {"%d1.%d1", letters, "1.2", false}, {"%d1.%d1", letters, "12.12", true}, {"%d1.%1", letters, "4.IV", true}, {"%d1.%1", letters, "4.V", false}, {"%1.%d1", letters, "4000.4000", true}, {"%1.%d1", letters, "IV.4000", false}, {"%1.%d1", letters, "0.0", true},
		{"%1%2", []int{1, 1}, "1", false}, {"%1%2", []int{1, 1}, "12", true}, {"%1%2", []int{1, 1}, "01", true}, {"%1%2", []int{1, 1}, "100", true}, {"%1%2", []int{1, 1}, "001", false}, {"%1%2", []int{1, 1}, "1234567890123", false}, {"%1%2", []int{1, 1}, "123456789123", true}, {"%1%2%1", []int{1, 1}, "1211", true}, {"%1%2%1", []int{1, 1}, "1212", false}, {"%1%2%1", []int{1, 1}, "12312", true}, {"%1%1%1", []int{1}, "121212", true}, {"%1%1%1", []int{1}, "121213", false},
		{"%2%1", []int{api.LowerRoman, api.LowerRoman}, "mmmdccclxxxviiimmmdccclxxxviii", true}, {"%2%1", []int{api.LowerRoman, api.LowerRoman}, "mmmdccclxxxviiiimmmdccclxxxviii", false},
		{"%1", []int{api.Bullet}, "\u2022", true}, {"%1", []int{api.Bullet}, "0", true}, {"%1", []int{api.Bullet}, "5", false}, {"%1%d1", []int{api.Bullet}, "\u20225", true}, {"%1%d1", []int{api.Bullet}, "\u20220", false}, {"%1%d1", []int{api.Bullet}, "00", true}, {"%d1%1", []int{api.Bullet}, "7\u2022", true}, {"%d1%1", []int{api.Bullet}, "0\u2022", false}, {"%1%1", []int{api.Bullet}, "\u2022\u2022", true}, {"%1%1", []int{api.Bullet}, "\u20220", false}, {"%1%1", []int{api.Bullet}, "0\u2022", false}, {"%1%d1%1%d1", []int{api.Bullet}, "\u20225\u20225", true}, {"%1%d1%1%d1", []int{api.Bullet}, "\u20225\u20226", false}, {"%1", []int{api.Bullet}, "\u2022\u2022", false}, {"%1%d1", []int{api.Bullet}, "\u2022999999", true}, {"%1%d1", []int{api.Bullet}, "\u20221000000", false},
		{"%1", []int{api.Ordinal}, "1st", true}, {"%1", []int{api.Ordinal}, "1", false}, {"%1", []int{api.Ordinal}, "0", true}, {"%1", []int{api.Ordinal}, "1th", false}, {"%1th", []int{1}, "4th", true},
		{"", []int{1}, "", true}, {"", []int{1}, "x", false}, {"a%%", []int{1}, "a%", true}, {"a%%", []int{1}, "a%%", false}, {"a%%", []int{1}, "A%", false}, {"%1", []int{1}, "", false}, {"%1.", []int{1}, "1", false}, {"%1.", []int{1}, "1.x", false}, {".%1", []int{1}, "1", false},
		{"%1", []int{1}, "\xFF", false}, {"%1", []int{1}, "1\x00", false}, {"%1", []int{1}, "01", false}, {"%1", []int{1}, strings.Repeat("1", 256), false}, {"%1", []int{api.LowerAlpha}, "zzzzz", false},
	} {
		if is, e := leveltext.Fits(levels(c.template, c.formats...), len(c.formats), c.label); is != c.want || e != api.OK {
			t.Errorf("Fits(%q, %d, %q) = %v, %d", c.template, c.formats, c.label, is, e)
		}
	}
}

func TestP10_6FitsErrors(t *testing.T) {
	two := []api.Level{level(1, "%1"), level(1, "%1%2")}
	long := strings.Repeat("1", 257)
	for _, c := range []struct {
		level int
		label string
		want  api.Errno
	}{
		{0, long, api.ErrRange}, {3, "1", api.ErrRange}, {-1, "", api.ErrRange}, {math.MinInt, "", api.ErrRange}, {math.MaxInt, "", api.ErrRange}, {2, long, api.ErrLong}, {1, long, api.ErrLong}, {1, long[1:], api.OK},
	} {
		if is, e := leveltext.Fits(two, c.level, c.label); is || e != c.want {
			t.Errorf("Fits(%d, %.9q) = %v, %d; want %d", c.level, c.label, is, e, c.want)
		}
	}
}

// fitsNaively tries all numbers that can matter: those with a numeral in the label, and 1 for bullets.
func fitsNaively(l []api.Level, label string) bool {
	candidates := map[int]bool{1: true}
	for from := range len(label) {
		for to := from + 1; to <= len(label); to++ {
			for format := api.Decimal; format < api.Bullet; format++ {
				if n, e := numeral.Parse(format, label[from:to]); e == api.OK {
					candidates[n] = true
				}
			}
		}
	}
	numbers := make([]int, len(l))
	var try func(level int) bool
	try = func(level int) bool {
		if level == len(l) {
			s, e := leveltext.Fill(l, len(l), numbers)
			return s == label && e == api.OK
		}
		for n := range candidates {
			numbers[level] = n
			if try(level + 1) {
				return true
			}
		}
		return false
	}
	return try(0)
}

func TestP10_6FitsLikeAllNumbers(t *testing.T) {
	for _, c := range []struct {
		formats   []int
		templates []string
		label     []string
	}{
		{[]int{api.Decimal, api.Decimal}, []string{"%1%2", "%1%2%1", "1%1%2", "%2%d1.%1", "%1%1"}, []string{"0", "1", "12", "."}},
		{[]int{api.LowerRoman, api.LowerAlpha}, []string{"%1%2", "%2%1%2", "%1%d1", "%d2%2", "v%1"}, []string{"i", "v", "1", "5", "0"}},
		{[]int{api.Bullet, api.UpperRoman}, []string{"%1%2", "%1%d1%1", "%d1%1", "%2%1%d2"}, []string{"\u2022", "0", "1", "I"}},
		{[]int{api.Ordinal, api.Bullet}, []string{"%1%2", "%d1%1", "%2%1%d2"}, []string{"1", "st", "0", "\u2022"}},
	} {
		for _, template := range c.templates {
			l := levels(template, c.formats...)
			for label := range samples.Strings(c.label, 4) {
				want := fitsNaively(l, label)
				if got, e := leveltext.Fits(l, 2, label); got != want || e != api.OK {
					t.Fatalf("Fits(%q, %d, %q) = %v, %d; want %v", template, c.formats, label, got, e, want)
				}
			}
		}
	}
}

// TestP10_6FitsMany has labels that can be read in many millions of ways, none of which is right.
func TestP10_6FitsMany(t *testing.T) {
	for _, c := range []struct {
		format          int
		template, label string
	}{
		{api.Decimal, "%1%2%3%4%5%6%7%8%9", strings.Repeat("1", 55)},
		{api.Decimal, "%1%2%3%4%5%6%7%8%9.", strings.Repeat("7", 40)},
		{api.Decimal, "%1%2%3%4%5%6%7%8%1.", strings.Repeat("1", 40)},
		{api.Decimal, "%1%2%3%4%5%1%2%3%4.", strings.Repeat("1", 50)},
		{api.LowerRoman, "%1%2%3%4%5%6%7%8%9.", strings.Repeat("mmmdccclxxxviii", 5)},
		{api.LowerRoman, "%1%2%3%4%5%1%2%3%4.", strings.Repeat("mmmdccclxxxviii", 4)},
		{api.LowerAlpha, "%1%2%3%4%5%6%7%8%9.", strings.Repeat("b", 36)},
	} {
		l := levels(c.template, slices.Repeat([]int{c.format}, 9)...)
		if is, e := leveltext.Fits(l, 9, c.label); is || e != api.OK {
			t.Errorf("Fits(%q, %q) = %v, %d", c.template, c.label, is, e)
		}
	}
}

func TestP10_7PrintAndParse(t *testing.T) {
	for template := range samples.Strings(pieces(), 4) {
		l, e := leveltext.Parse(template)
		if e != api.OK {
			t.Fatalf("Parse(%q): %d", template, e)
		}
		if s, e := leveltext.Print(l); s != template || e != api.OK {
			t.Fatalf("Print(Parse(%q)) = %q, %d", template, s, e)
		}
	}
	for s := range samples.Strings([]string{"%", "d", "1", "%%", "\xC3\xA9"}, 5) {
		if l, e := leveltext.Parse(s); e == api.OK {
			if again, e := leveltext.Print(l); again != s || e != api.OK {
				t.Fatalf("Print(Parse(%q)) = %q, %d", s, again, e)
			}
		}
	}
}

func TestP10_7ShiftThereAndBack(t *testing.T) {
	for template := range samples.Strings(pieces(), 3) {
		for by := -10; by <= 10; by++ {
			there, e := leveltext.Shift(template, by)
			if e != api.OK {
				continue
			}
			if back, e := leveltext.Shift(there, -by); back != template || e != api.OK {
				t.Fatalf("Shift(%q, %d) = %q, and back %q, %d", template, by, there, back, e)
			}
		}
	}
}

func TestP10_7Labels(t *testing.T) {
	numbers := []int{0, 1, 4, 9, 26, 27, 703, 3888, 3999, 4000, 475255, 999998, 999999}
	for format := api.Decimal; format <= api.Bullet; format++ {
		for _, template := range []string{"%1", "%d1%1", "(%1.%2)", "%2%1%d2", "%1%2%2%1", "%%%2 ", "%2%2%2%2%2%2%2%2%1" + strings.Repeat("\u00A7", 23)} {
			l := levels(template, format, api.LowerRoman)
			used, _ := leveltext.Used(template)
			for _, one := range numbers {
				for _, two := range numbers {
					label, e := leveltext.Fill(l, 2, []int{one, two})
					if e != api.OK || len(label) > leveltext.MaxLabel || !utf8.ValidString(label) {
						t.Fatalf("Fill(%q, %d, %d) = %q, %d", template, one, two, label, e)
					}
					if is, e := leveltext.Fits(l, 2, label); !is || e != api.OK {
						t.Fatalf("Fits(%q, %d, %q) = %v, %d", template, format, label, is, e)
					}
					for i, unused := range [][]int{{-1, two}, {one, 5}} {
						if slices.Contains(used, i+1) {
							continue
						}
						if other, _ := leveltext.Fill(l, 2, unused); other != label {
							t.Fatalf("the label of %q depends on the level %d", template, i+1)
						}
					}
				}
			}
		}
	}
}

func TestP10_7NewMemory(t *testing.T) {
	first, _ := leveltext.Parse("a%1b")
	first[0] = place(7)
	if again, _ := leveltext.Parse("a%1b"); !slices.Equal(again, parts(literal("a"), place(1), literal("b"))) {
		t.Errorf("two results of Parse share memory: %v", again)
	}
	l := []api.Level{level(1, "%1"), level(2, "%1%2")}
	numbers := []int{3, 4}
	given := parts(literal("%"), place(1))
	leveltext.Fill(l, 2, numbers)
	leveltext.Fits(l, 2, "3d")
	leveltext.Print(given)
	if !slices.Equal(l, []api.Level{level(1, "%1"), level(2, "%1%2")}) || !slices.Equal(numbers, []int{3, 4}) || !slices.Equal(given, parts(literal("%"), place(1))) {
		t.Error("an argument was changed")
	}
}
