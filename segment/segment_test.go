package segment_test

import (
	"math"
	"slices"
	"strings"
	"testing"

	"obelus/api"
	"obelus/grapheme"
	"obelus/samples"
	"obelus/segment"
)

// classLists returns the lists of the chapter.
func classLists() map[int]string {
	return map[int]string{
		segment.Newline: "A-D, 1D, 85, 2028-2029",
		segment.Blank:   "9, 20, 1680, 2000-2006, 2008-200A, 205F, 3000",
		segment.Glue:    "A0, 2007, 202F, 2060, FEFF",
		segment.Soft:    "AD",
		segment.Letter: "41-5A, 5F, 61-7A, AA, B5, BA, C0-D6, D8-F6, F8-2AF, 370-373, 376-377, 37B-37D, 37F, 386, 388-481, 48A-52F, 531-556, 561-587, 5D0-5EA, 620-64A, 671-6D3, " +
			"904-939, 958-961, E01-E30, E40-E46, 10A0-10FF, 1100-11FF, 1E00-1FFF, AC00-D7A3",
		segment.Digit:     "30-39, 660-669, 6F0-6F9, 966-96F, E50-E59, FF10-FF19",
		segment.Ideograph: "3041-3096, 30A1-30FA, 3105-312F, 3400-4DBF, 4E00-9FFF, F900-FAFF, 1F300-1F64F, 1F680-1F6FF, 1F900-1F9FF, 20000-2FA1F",
		segment.Open:      "28, 5B, 7B, AB, 2018, 201C, 3008, 300A, 300C, 300E, 3010, 3014",
		segment.Close:     "21, 29, 3A-3B, 3F, 5D, 7D, BB, 201D, 2026, 3001-3002, 3009, 300B, 300D, 300F, 3011, 3015",
		segment.Infix:     "2C, 2E, 66B",
		segment.Connect:   "27, B7, 2019",
		segment.Hyphen:    "2D, 2010, 2013",
		segment.Dash:      "2014",
	}
}

// everyClass returns a code point of each class, one that extends clusters, and a cluster of two units.
func everyClass() []string {
	return []string{"+", "\n", " ", "\u00A0", "\u00AD", "a", "7", "\u4E00", "(", ")", ".", "'", "-", "\u2014", "\u0301", "\r\n"}
}

// wordClasses returns what tokens and breaks depend on at a distance.
func wordClasses() []string {
	return []string{"a", "7", ".", "'", "-", " ", "e\u0301"}
}

// clusters returns the classes of the clusters of a string, and their boundaries.
func clusters(s string) (classes, boundaries []int) {
	boundaries, _ = grapheme.Boundaries(s)
	runes := []rune(s)
	for _, b := range boundaries[:len(boundaries)-1] {
		classes = append(classes, segment.Class(int(runes[b])))
	}
	return classes, boundaries
}

func in(class int, list ...int) bool { return slices.Contains(list, class) }

// together reports whether the cluster i and the one behind it are of one token.
func together(classes []int, i int) bool {
	wordy := func(k int) bool { return in(classes[k], segment.Letter, segment.Digit) }
	spacy := func(k int) bool { return in(classes[k], segment.Blank, segment.Glue) }
	between := func(k int) bool {
		if k == 0 || k+1 == len(classes) || classes[k-1] != classes[k+1] {
			return false
		}
		return classes[k] == segment.Connect && classes[k-1] == segment.Letter || classes[k] == segment.Infix && classes[k-1] == segment.Digit
	}
	return wordy(i) && wordy(i+1) || spacy(i) && spacy(i+1) || between(i) || between(i+1)
}

func kind(classes []int) int {
	switch {
	case slices.Contains(classes, segment.Letter):
		return segment.Word
	case slices.Contains(classes, segment.Digit):
		return segment.Number
	case in(classes[0], segment.Blank, segment.Glue):
		return segment.Space
	case classes[0] == segment.Newline:
		return segment.Control
	case classes[0] == segment.Ideograph:
		return segment.Ideogram
	}
	return segment.Sign
}

// tokens finds the tokens from the pairs of clusters that stay together.
func tokens(s string) []segment.Token {
	classes, boundaries := clusters(s)
	var list []segment.Token
	first := 0
	for i := range classes {
		if i+1 == len(classes) || !together(classes, i) {
			list = append(list, segment.Token{Kind: kind(classes[first : i+1]), From: boundaries[first], To: boundaries[i+1]})
			first = i + 1
		}
	}
	return list
}

// breakKind is the kind of the break before a cluster, or 0.
func breakKind(classes []int, i int) int {
	a, b := classes[i-1], classes[i]
	if a == segment.Newline {
		return segment.Must
	}
	if in(b, segment.Newline, segment.Blank) || a == segment.Glue || b == segment.Glue {
		return 0
	}
	if a == segment.Blank {
		return segment.May
	}
	if a == segment.Soft {
		return segment.Hyphenated
	}
	if a == segment.Open || in(b, segment.Soft, segment.Close, segment.Infix, segment.Connect, segment.Hyphen, segment.Dash) {
		return 0
	}
	if a == segment.Dash || a == segment.Ideograph || b == segment.Ideograph {
		return segment.May
	}
	if a == segment.Hyphen && b == segment.Letter && i >= 2 && in(classes[i-2], segment.Letter, segment.Digit) {
		return segment.May
	}
	return 0
}

func breaks(s string) []segment.Break {
	classes, boundaries := clusters(s)
	var list []segment.Break
	for i := 1; i < len(classes); i++ {
		if k := breakKind(classes, i); k != 0 {
			list = append(list, segment.Break{At: boundaries[i], Kind: k})
		}
	}
	return list
}

// checkAll calls f with the strings that the tests go through.
func checkAll(f func(s string)) {
	for s := range samples.Strings(everyClass(), 3) {
		f(s)
	}
	for s := range samples.Strings(wordClasses(), 5) {
		f(s)
	}
}

func TestP1AllArguments(t *testing.T) {
	for s := range samples.Strings([]string{"a", "7", "\u0301", "\r", "\xE2\x82", "\xFF"}, 2) {
		for _, n := range samples.Numbers() {
			if token, e := segment.At(s, n); e != api.OK && token != (segment.Token{}) {
				t.Errorf("At(%q, %d) = %v, %d", s, n, token, e)
			}
			if unit, e := segment.Next(s, n); e != api.OK && unit != 0 {
				t.Errorf("Next(%q, %d) = %d, %d", s, n, unit, e)
			}
			if unit, e := segment.Prev(s, n); e != api.OK && unit != 0 {
				t.Errorf("Prev(%q, %d) = %d, %d", s, n, unit, e)
			}
		}
	}
}

func TestP3_1Constants(t *testing.T) {
	classes := []int{segment.Other, segment.Newline, segment.Blank, segment.Glue, segment.Soft, segment.Letter, segment.Digit, segment.Ideograph,
		segment.Open, segment.Close, segment.Infix, segment.Connect, segment.Hyphen, segment.Dash}
	kinds := []int{0, segment.Word, segment.Number, segment.Space, segment.Sign, segment.Ideogram, segment.Control}
	breaks := []int{0, segment.May, segment.Must, segment.Hyphenated}
	for _, list := range [][]int{classes, kinds, breaks} {
		for i, number := range list {
			if number != i {
				t.Errorf("the constant %d has the value %d", i, number)
			}
		}
	}
}

func TestP3_1Class(t *testing.T) {
	want, ok := samples.Classes(classLists())
	if !ok {
		t.Fatal("ranges of two classes overlap")
	}
	for p := -0x100; p <= 0x110100; p++ {
		if got := segment.Class(p); got != want[p] {
			t.Errorf("Class(%#x) = %d; want %d", p, got, want[p])
		}
	}
	for _, p := range []int{math.MinInt, 1<<32 + 'a', math.MaxInt} {
		if got := segment.Class(p); got != segment.Other {
			t.Errorf("Class(%#x) = %d", p, got)
		}
	}
}

func TestP3_2Tokens(t *testing.T) {
	checkAll(func(s string) {
		want := tokens(s)
		if got, e := segment.Tokens(s); !slices.Equal(got, want) || e != api.OK {
			t.Fatalf("Tokens(%q) = %v, %d; want %v", s, got, e, want)
		}
		var all, words []string
		for _, token := range want {
			text := string([]rune(s)[token.From:token.To])
			all = append(all, text)
			if in(token.Kind, segment.Word, segment.Number) {
				words = append(words, text)
			}
		}
		if got, e := segment.Texts(s); !slices.Equal(got, all) || e != api.OK {
			t.Fatalf("Texts(%q) = %q, %d; want %q", s, got, e, all)
		}
		if got, e := segment.Words(s); !slices.Equal(got, words) || e != api.OK {
			t.Fatalf("Words(%q) = %q, %d; want %q", s, got, e, words)
		}
	})
}

func TestP3_2Examples(t *testing.T) {
	for s, want := range map[string]string{
		"":                     "",
		"It's 3.5 m, no?":      "It's| |3.5| |m|,| |no|?",
		"well-known":           "well|-|known",
		"-5":                   "-|5",
		"'a' b''c d'":          "'|a|'| |b|'|'|c| |d|'",
		".5 1..2 1.a a.b 1'2":  ".|5| |1|.|.|2| |1|.|a| |a|.|b| |1|'|2",
		"1,000.5x a1b2 rock's": "1,000.5x| |a1b2| |rock's",
		" \u00A0\t\u2007x":     " \u00A0\t\u2007|x",
		"\u4E00\u4E8C\r\n\n+":  "\u4E00|\u4E8C|\r\n|\n|+",
		"e\u0301'e\u0301":      "e\u0301'e\u0301",
		"l'\u0301a \u0600a":    "l'\u0301a| |\u0600a",
		"'\u0301 \u0301":       "'\u0301| \u0301",
	} {
		if got, e := segment.Texts(s); strings.Join(got, "|") != want || e != api.OK {
			t.Errorf("Texts(%q) = %q, %d; want %q", s, got, e, want)
		}
	}
	words, e := segment.Words("It's 3.5 m, no?\u4E00")
	if !slices.Equal(words, []string{"It's", "3.5", "m", "no"}) || e != api.OK {
		t.Errorf("Words = %q, %d", words, e)
	}
	want := []segment.Token{{Kind: segment.Number, From: 0, To: 3}, {Kind: segment.Ideogram, From: 3, To: 4}, {Kind: segment.Control, From: 4, To: 6}, {Kind: segment.Sign, From: 6, To: 7}, {Kind: segment.Space, From: 7, To: 8}, {Kind: segment.Word, From: 8, To: 11}}
	if got, e := segment.Tokens("1.2\u4E00\r\n+ a'b"); !slices.Equal(got, want) || e != api.OK {
		t.Errorf("Tokens = %v, %d; want %v", got, e, want)
	}
}

func TestP3_2Invalid(t *testing.T) {
	for _, s := range []string{"\xFF", "a b\xC3", "\xED\xA0\x80", "\xC0\x80"} {
		if list, e := segment.Tokens(s); len(list) != 0 || e != api.ErrUTF8 {
			t.Errorf("Tokens(%q) = %v, %d", s, list, e)
		}
		if list, e := segment.Texts(s); len(list) != 0 || e != api.ErrUTF8 {
			t.Errorf("Texts(%q) = %q, %d", s, list, e)
		}
		if list, e := segment.Words(s); len(list) != 0 || e != api.ErrUTF8 {
			t.Errorf("Words(%q) = %q, %d", s, list, e)
		}
	}
}

func TestP3_3Units(t *testing.T) {
	checkAll(func(s string) {
		list := tokens(s)
		end := len([]rune(s))
		for unit := range end + 1 {
			next, prev := end, 0
			for _, token := range slices.Backward(list) {
				if token.Kind != segment.Space && token.From > unit {
					next = token.From
				}
			}
			for _, token := range list {
				if token.Kind != segment.Space && token.From < unit {
					prev = token.From
				}
				if token.From <= unit && unit < token.To {
					if got, e := segment.At(s, unit); got != token || e != api.OK {
						t.Fatalf("At(%q, %d) = %v, %d; want %v", s, unit, got, e, token)
					}
				}
			}
			if got, e := segment.Next(s, unit); got != next || e != api.OK {
				t.Fatalf("Next(%q, %d) = %d, %d; want %d", s, unit, got, e, next)
			}
			if got, e := segment.Prev(s, unit); got != prev || e != api.OK {
				t.Fatalf("Prev(%q, %d) = %d, %d; want %d", s, unit, got, e, prev)
			}
		}
	})
}

func TestP3_3Invalid(t *testing.T) {
	for _, c := range []struct {
		s        string
		unit     int
		at, step api.Errno
	}{
		{"", 0, api.ErrRange, api.OK}, {"", 1, api.ErrRange, api.ErrRange}, {"", -1, api.ErrRange, api.ErrRange},
		{"e\u0301 ", 3, api.ErrRange, api.OK}, {"e\u0301 ", 4, api.ErrRange, api.ErrRange}, {"a", math.MinInt, api.ErrRange, api.ErrRange}, {"a", math.MaxInt, api.ErrRange, api.ErrRange},
		{"a\xFF", 0, api.ErrUTF8, api.ErrUTF8}, {"a\xFF", -1, api.ErrUTF8, api.ErrUTF8}, {"a\xFF", 9, api.ErrUTF8, api.ErrUTF8},
	} {
		if token, e := segment.At(c.s, c.unit); token != (segment.Token{}) || e != c.at {
			t.Errorf("At(%q, %d) = %v, %d", c.s, c.unit, token, e)
		}
		if unit, e := segment.Next(c.s, c.unit); e != c.step || e != api.OK && unit != 0 {
			t.Errorf("Next(%q, %d) = %d, %d", c.s, c.unit, unit, e)
		}
		if unit, e := segment.Prev(c.s, c.unit); e != c.step || e != api.OK && unit != 0 {
			t.Errorf("Prev(%q, %d) = %d, %d", c.s, c.unit, unit, e)
		}
	}
}

func TestP3_4Breaks(t *testing.T) {
	checkAll(func(s string) {
		want := breaks(s)
		if got, e := segment.Breaks(s); !slices.Equal(got, want) || e != api.OK {
			t.Fatalf("Breaks(%q) = %v, %d; want %v", s, got, e, want)
		}
	})
}

func TestP3_4Examples(t *testing.T) {
	may := func(offsets ...int) (list []segment.Break) {
		for _, at := range offsets {
			list = append(list, segment.Break{At: at, Kind: segment.May})
		}
		return list
	}
	for s, want := range map[string][]segment.Break{
		"":                         nil,
		"a":                        nil,
		"a\n":                      nil,
		"It's 3.5 m, no?":          may(5, 9, 12),
		"well-known":               may(5),
		"-a a--b (-a":              may(3, 8),
		"-5 x-5 5-x":               may(3, 7, 9),
		"a\nb":                     {{At: 2, Kind: segment.Must}},
		"a\r\n b":                  {{At: 3, Kind: segment.Must}, {At: 4, Kind: segment.May}},
		"\n\n":                     {{At: 1, Kind: segment.Must}},
		"co\u00ADop":               {{At: 3, Kind: segment.Hyphenated}},
		"co\u00AD op":              may(4),
		"\u4E00\u4E01\u4E02":       may(1, 2),
		"\u4E00\u3002(\u4E01)":     nil,
		"a\u00A0 b \u00A0c":        may(3),
		"a\u2014b\u2014\u2014c":    may(2, 5),
		"e\u0301-e\u0301 e\u0301 ": may(3, 6),
	} {
		if got, e := segment.Breaks(s); !slices.Equal(got, want) || e != api.OK {
			t.Errorf("Breaks(%q) = %v, %d; want %v", s, got, e, want)
		}
	}
	for _, s := range []string{"\xFF", "a b\xC3", "\xED\xA0\x80"} {
		if list, e := segment.Breaks(s); len(list) != 0 || e != api.ErrUTF8 {
			t.Errorf("Breaks(%q) = %v, %d", s, list, e)
		}
	}
}

func TestP3_5Cover(t *testing.T) {
	checkAll(func(s string) {
		list, _ := segment.Tokens(s)
		boundaries, _ := grapheme.Boundaries(s)
		end := 0
		for i, token := range list {
			if token.From != end || token.To <= token.From || !slices.Contains(boundaries, token.To) {
				t.Fatalf("Tokens(%q) = %v", s, list)
			}
			end = token.To
			if i > 0 && neighboursClash(list[i-1].Kind, token.Kind) {
				t.Fatalf("neighbouring tokens of %q: %v", s, list)
			}
		}
		if end != boundaries[len(boundaries)-1] {
			t.Fatalf("Tokens(%q) = %v", s, list)
		}
	})
}

func neighboursClash(a, b int) bool {
	return a == segment.Space && b == segment.Space || in(a, segment.Word, segment.Number) && in(b, segment.Word, segment.Number)
}

func TestP3_5BreaksAtBorders(t *testing.T) {
	checkAll(func(s string) {
		list, _ := segment.Tokens(s)
		found, _ := segment.Breaks(s)
		runes := []rune(s)
		for _, b := range found {
			if !slices.ContainsFunc(list, func(token segment.Token) bool { return token.From == b.At && b.At > 0 }) {
				t.Fatalf("the break %v of %q is no border of %v", b, s, list)
			}
			before, _ := segment.At(s, b.At-1)
			if segment.Class(int(runes[b.At])) == segment.Blank && before.Kind != segment.Control {
				t.Fatalf("a Blank stands behind the break %v of %q", b, s)
			}
		}
	})
}

func TestP3_5LineFeed(t *testing.T) {
	parts := []string{"a", "'", "7", ".", " ", "\u0301", "\n", "\r", "\u0600"}
	for a := range samples.Strings(parts, 3) {
		if strings.HasSuffix(a, "\r") {
			continue
		}
		for b := range samples.Strings(parts, 2) {
			want, _ := segment.Tokens(a)
			end := len([]rune(a)) + 1
			want = append(want, segment.Token{Kind: segment.Control, From: end - 1, To: end})
			behind, _ := segment.Tokens(b)
			for _, token := range behind {
				want = append(want, segment.Token{Kind: token.Kind, From: token.From + end, To: token.To + end})
			}
			if got, _ := segment.Tokens(a + "\n" + b); !slices.Equal(got, want) {
				t.Fatalf("Tokens(%q) = %v; want %v", a+"\n"+b, got, want)
			}
		}
	}
}

func TestP3_5Visits(t *testing.T) {
	checkAll(func(s string) {
		list, _ := segment.Tokens(s)
		end := len([]rune(s))
		want := []int{0, end}
		for _, token := range list {
			if token.Kind != segment.Space {
				want = append(want, token.From)
			}
		}
		slices.Sort(want)
		want = slices.Compact(want)
		forward := []int{0}
		for at := 0; at < end; {
			at, _ = segment.Next(s, at)
			forward = append(forward, at)
		}
		backward := []int{end}
		for at := end; at > 0; {
			at, _ = segment.Prev(s, at)
			backward = append(backward, at)
		}
		slices.Reverse(backward)
		if !slices.Equal(forward, want) || !slices.Equal(backward, want) {
			t.Fatalf("visits of %q: %v, %v; want %v", s, forward, backward, want)
		}
	})
}

func TestP3_5NewMemory(t *testing.T) {
	tokens, _ := segment.Tokens("a b")
	tokens[0].Kind = 0
	found, _ := segment.Breaks("a b")
	found[0].Kind = 0
	texts, _ := segment.Texts("a b")
	texts[0] = ""
	tokens, _ = segment.Tokens("a b")
	found, _ = segment.Breaks("a b")
	texts, _ = segment.Texts("a b")
	if tokens[0].Kind == 0 || found[0].Kind == 0 || texts[0] == "" {
		t.Error("results are shared between calls")
	}
}
