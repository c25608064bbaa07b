package collate_test

import (
	"cmp"
	"iter"
	"math"
	"slices"
	"strings"
	"testing"

	"obelus/api"
	"obelus/collate"
	"obelus/samples"
)

// accent is what the chapter says of letters with accents: capital ones, their letter, and their marks.
type accent struct {
	letters string
	letter  rune
	marks   []rune
}

func accents() []accent {
	return []accent{
		{"ÀÁÂÃÄÅ", 'A', []rune{0x300, 0x301, 0x302, 0x303, 0x308, 0x30A}},
		{"Ç", 'C', []rune{0x327}},
		{"ÈÉÊË", 'E', []rune{0x300, 0x301, 0x302, 0x308}},
		{"ÌÍÎÏ", 'I', []rune{0x300, 0x301, 0x302, 0x308}},
		{"Ñ", 'N', []rune{0x303}},
		{"ÒÓÔÕÖ", 'O', []rune{0x300, 0x301, 0x302, 0x303, 0x308}},
		{"Ø", 'O', []rune{0x338}},
		{"ÙÚÛÜ", 'U', []rune{0x300, 0x301, 0x302, 0x308}},
		{"Ý", 'Y', []rune{0x301}},
		{"àáâãäå", 'a', []rune{0x300, 0x301, 0x302, 0x303, 0x308, 0x30A}},
		{"ç", 'c', []rune{0x327}},
		{"èéêë", 'e', []rune{0x300, 0x301, 0x302, 0x308}},
		{"ìíîï", 'i', []rune{0x300, 0x301, 0x302, 0x308}},
		{"ñ", 'n', []rune{0x303}},
		{"òóôõö", 'o', []rune{0x300, 0x301, 0x302, 0x303, 0x308}},
		{"ø", 'o', []rune{0x338}},
		{"ùúûü", 'u', []rune{0x300, 0x301, 0x302, 0x308}},
		{"ýÿ", 'y', []rune{0x301, 0x308}},
	}
}

// decompositions returns the two code points that have the elements of one, by rules 6 and 7.
func decompositions() map[rune][]rune {
	list := map[rune][]rune{'Æ': {'A', 'E'}, 'æ': {'a', 'e'}, 'ß': {'s', 's'}}
	for _, a := range accents() {
		for i, c := range []rune(a.letters) {
			list[c] = []rune{a.letter, a.marks[i]}
		}
	}
	return list
}

// pointElements gives the elements of a code point by the rules of the chapter.
func pointElements(decompositions map[rune][]rune, c rune, o collate.Options) []collate.Element {
	base := func(p rune) []collate.Element {
		return []collate.Element{{Primary: int(p), Secondary: 32, Tertiary: 2}}
	}
	const small, capital = "abcdefghijklmnopqrstuvwxyz", "ABCDEFGHIJKLMNOPQRSTUVWXYZ"
	switch {
	case c < 32 || c >= 127 && c <= 159 || c == 173:
		return nil
	case strings.ContainsRune(" !\"#$%&'()*+,-./:;<=>?@[\\]^_`{|}~", c):
		if o.Ignore {
			return nil
		}
		return base(256 + c)
	case c >= '0' && c <= '9':
		return base(512 + c - '0')
	case strings.ContainsRune(small, c):
		return base(32768 + 4*rune(strings.IndexRune(small, c)))
	case strings.ContainsRune(capital, c):
		e := base(32768 + 4*rune(strings.IndexRune(capital, c)))
		e[0].Tertiary = 3
		if o.UpperFirst {
			e[0].Tertiary = 1
		}
		return e
	case c >= 768 && c <= 879:
		return []collate.Element{{Secondary: 33 + int(c) - 768}}
	case decompositions[c] != nil:
		two := decompositions[c]
		return slices.Concat(pointElements(decompositions, two[0], o), pointElements(decompositions, two[1], o))
	}
	return base(65536 + c)
}

// elements gives the elements of a string by the words of the chapter.
func elements(decompositions map[rune][]rune, s string, o collate.Options) []collate.Element {
	var list []collate.Element
	runes := []rune(s)
	for i := 0; i < len(runes); {
		end := i
		for o.Numeric && end < len(runes) && runes[end] >= '0' && runes[end] <= '9' {
			end++
		}
		if end == i {
			list = append(list, pointElements(decompositions, runes[i], o)...)
			i++
			continue
		}
		digits := strings.TrimLeft(string(runes[i:end]), "0")
		if digits == "" {
			digits = "0"
		}
		list = append(list, collate.Element{Primary: 768 + len(digits), Secondary: 32, Tertiary: 2})
		for _, digit := range digits {
			list = append(list, pointElements(decompositions, digit, o)...)
		}
		i = end
	}
	return list
}

// weights returns the weights of elements on the levels 1 to 3.
func weights(list []collate.Element) [3][]int {
	var levels [3][]int
	for _, e := range list {
		for level, weight := range []int{e.Primary, e.Secondary, e.Tertiary} {
			if weight != 0 {
				levels[level] = append(levels[level], weight)
			}
		}
	}
	return levels
}

// naive compares strings by their lists of weights.
func naive(decompositions map[rune][]rune, a, b string, o collate.Options) int {
	first, second := weights(elements(decompositions, a, o)), weights(elements(decompositions, b, o))
	for level := range min(o.Strength, 3) {
		if order := slices.Compare(first[level], second[level]); order != 0 {
			return order
		}
	}
	if o.Strength == 4 {
		return cmp.Compare(a, b)
	}
	return 0
}

// naiveKey writes the weights with the arithmetic of the chapter.
func naiveKey(decompositions map[rune][]rune, s string, o collate.Options) string {
	levels := weights(elements(decompositions, s, o))
	var key []byte
	for _, w := range append(levels[0], 0) {
		key = append(key, byte(w/65536), byte(w/256%256), byte(w%256))
	}
	if o.Strength >= 2 {
		for _, w := range append(levels[1], 0) {
			key = append(key, byte(w/256), byte(w%256))
		}
	}
	if o.Strength >= 3 {
		for _, w := range append(levels[2], 0) {
			key = append(key, byte(w))
		}
	}
	if o.Strength == 4 {
		key = append(key, s...)
	}
	return string(key)
}

// options yields all options.
func options() iter.Seq[collate.Options] {
	return func(yield func(collate.Options) bool) {
		for strength := 1; strength <= 4; strength++ {
			for bits := range 8 {
				if !yield(collate.Options{Strength: strength, Numeric: bits&1 != 0, Ignore: bits&2 != 0, UpperFirst: bits&4 != 0}) {
					return
				}
			}
		}
	}
}

// parts returns a code point for each rule, and some more.
func parts() []string {
	return []string{"\t", "\u00AD", " ", "-", "0", "7", "a", "A", "b", "\u0301", "\u0308", "é", "É", "ß", "Æ", "\u03B1", "\U0010FFFF"}
}

// assorted returns strings that are compared with one another.
func assorted() []string {
	list := slices.Collect(samples.Strings([]string{"e", "E", "é", "\u0301", "-", "1", "0"}, 2))
	return append(list, "elan", "Elan", "élan", "Élan", "e\u0301lan", "E\u0301lan", "page 9", "page 10", "page 010", "007", "7", "07", "0", "00", "co-op", "coop", "co op", "COOP", "co\u00ADop",
		"ss", "ß", "sS", "SS", "ae", "æ", "Æ", "AE", "Ae", "z", "\u00F0", "\u4E00", "\U0001F600", "12", "012", "9", "99", "100", "a1b", "a01b", "a10b", "\n", "\u0308", "(x)", "x")
}

const invalid = "a\xC3"

func tooLong() string { return strings.Repeat("a", collate.MaxString) + "\xFF" }

// errorsOf returns the error that the functions with one string have for it.
func errorsOf(o collate.Options, list ...string) api.Errno {
	if o.Strength < 1 || o.Strength > 4 {
		return api.ErrValue
	}
	for _, s := range list {
		switch {
		case len(s) > 4096:
			return api.ErrLong
		case strings.ToValidUTF8(s, "") != s:
			return api.ErrUTF8
		}
	}
	return api.OK
}

func TestP1AllArguments(t *testing.T) {
	list := []string{"", "a", "\xFF", invalid, "\xED\xA0\x80", "\xC0\x80", tooLong(), strings.Repeat("é", 2048), strings.Repeat("é", 2048) + "x"}
	for _, strength := range append(samples.Numbers(), 6, 1<<32+1) {
		for bits := range 8 {
			o := collate.Options{Strength: strength, Numeric: bits&1 != 0, Ignore: bits&2 != 0, UpperFirst: bits&4 != 0}
			for _, a := range list {
				want := errorsOf(o, a)
				if l, e := collate.Elements(a, o); e != want || e != api.OK && len(l) != 0 {
					t.Errorf("Elements of %d bytes, %v = %d elements, %d; want %d", len(a), o, len(l), e, want)
				}
				if key, e := collate.Key(a, o); e != want || e != api.OK && key != "" {
					t.Errorf("Key of %d bytes, %v = %d bytes, %d; want %d", len(a), o, len(key), e, want)
				}
				if initial, e := collate.Initial(a, o); e != want || e != api.OK && initial != "" {
					t.Errorf("Initial of %d bytes, %v = %q, %d; want %d", len(a), o, initial, e, want)
				}
				for _, b := range list {
					checkTwo(t, a, b, o)
				}
			}
		}
	}
}

// checkTwo checks the errors of the functions that take several strings: those of the first string come first.
func checkTwo(t *testing.T, a, b string, o collate.Options) {
	t.Helper()
	want := errorsOf(o, a, b)
	if order, e := collate.Compare(a, b, o); e != want || e != api.OK && order != 0 {
		t.Errorf("Compare of %d and %d bytes, %v = %d, %d; want %d", len(a), len(b), o, order, e, want)
	}
	if has, e := collate.HasPrefix(a, b, o); e != want || e != api.OK && has {
		t.Errorf("HasPrefix of %d and %d bytes, %v = %v, %d; want %d", len(a), len(b), o, has, e, want)
	}
	if l, e := collate.Sort([]string{a, b}, o); e != want || e != api.OK && len(l) != 0 {
		t.Errorf("Sort of %d and %d bytes, %v = %d strings, %d; want %d", len(a), len(b), o, len(l), e, want)
	}
}

func TestP6_1Check(t *testing.T) {
	for _, strength := range append(samples.Numbers(), 6, 1<<32+1, math.MinInt+2) {
		for _, flag := range []bool{false, true} {
			want := api.ErrValue
			if strength == 1 || strength == 2 || strength == 3 || strength == 4 {
				want = api.OK
			}
			if e := collate.Check(collate.Options{Strength: strength, Numeric: flag, Ignore: flag, UpperFirst: flag}); e != want {
				t.Errorf("Check of the strength %d = %d; want %d", strength, e, want)
			}
		}
	}
	if e := collate.Check(collate.Options{}); e != api.ErrValue {
		t.Errorf("Check of no options = %d", e)
	}
}

func TestP6_1ElementsOfPoints(t *testing.T) {
	known := decompositions()
	if len(known) != 58 {
		t.Fatalf("%d letters with two parts", len(known))
	}
	check := func(c rune, o collate.Options) {
		want := pointElements(known, c, o)
		if o.Numeric && c >= '0' && c <= '9' {
			want = append([]collate.Element{{Primary: 769, Secondary: 32, Tertiary: 2}}, want...)
		}
		if got, e := collate.Elements(string(c), o); !slices.Equal(got, want) || e != api.OK {
			t.Errorf("Elements(%#x, %v) = %v, %d; want %v", c, o, got, e, want)
		}
	}
	for c := rune(0); c <= 0x10FFFF; c++ {
		if c < 0xD800 || c > 0xDFFF {
			check(c, collate.Options{Strength: 1})
		}
	}
	for o := range options() {
		for c := range rune(0x500) {
			check(c, o)
		}
	}
}

func TestP6_1ElementsOfStrings(t *testing.T) {
	known := decompositions()
	for o := range options() {
		for s := range samples.Strings(parts(), 3) {
			want := elements(known, s, o)
			if got, e := collate.Elements(s, o); !slices.Equal(got, want) || e != api.OK {
				t.Fatalf("Elements(%q, %v) = %v, %d; want %v", s, o, got, e, want)
			}
		}
	}
}

func TestP6_1Numbers(t *testing.T) {
	known := decompositions()
	o := collate.Options{Strength: 3, Numeric: true}
	for s := range samples.Strings([]string{"0", "1", "9", "a", "\u00AD", "\u0301"}, 5) {
		want := elements(known, s, o)
		if got, e := collate.Elements(s, o); !slices.Equal(got, want) || e != api.OK {
			t.Fatalf("Elements(%q) = %v, %d; want %v", s, got, e, want)
		}
	}
	for s, want := range map[string][]int{
		"0":         {769, 512},
		"000":       {769, 512},
		"007":       {769, 519},
		"10":        {770, 513, 512},
		"1\u00AD2":  {769, 513, 769, 514}, // the soft hyphen divides the run, though it has no elements
		"a0b01":     {32768, 769, 512, 32772, 769, 513},
		"1\u06612":  {769, 513, 65536 + 0x661, 769, 514}, // other digits are no digits 0 to 9
		"3.14":      {769, 515, 302, 770, 513, 516},
		"\u0301012": {770, 513, 514},
	} {
		list, e := collate.Elements(s, o)
		if got := weights(list)[0]; !slices.Equal(got, want) || e != api.OK {
			t.Errorf("the weights of %q are %d, %d; want %d", s, got, e, want)
		}
	}
}

func TestP6_1Longest(t *testing.T) {
	for unit, want := range map[string]int{"a": 4096, "\t": 0, "é": 4096, "ß": 4096, "\U0001F600": 1024, "7": 4096} {
		s := strings.Repeat(unit, 4096/len(unit))
		if list, e := collate.Elements(s, collate.Options{Strength: 1}); len(list) != want || e != api.OK {
			t.Errorf("Elements of 4096 bytes %q: %d elements, %d; want %d", unit, len(list), e, want)
		}
		if list, e := collate.Elements(s+"a", collate.Options{Strength: 1}); len(list) != 0 || e != api.ErrLong {
			t.Errorf("Elements of 4097 bytes %q: %d elements, %d", unit, len(list), e)
		}
	}
	list, e := collate.Elements(strings.Repeat("7", 4096), collate.Options{Strength: 1, Numeric: true})
	if len(list) != 4097 || list[0].Primary != 768+4096 || list[4096].Primary != 519 || e != api.OK {
		t.Errorf("Elements of a number of 4096 digits: %d elements, %d", len(list), e)
	}
	if collate.MaxString != 4096 {
		t.Errorf("MaxString = %d", collate.MaxString)
	}
}

func TestP6_2Key(t *testing.T) {
	known := decompositions()
	for o := range options() {
		for s := range samples.Strings(parts(), 3) {
			want := naiveKey(known, s, o)
			if got, e := collate.Key(s, o); got != want || e != api.OK {
				t.Fatalf("Key(%q, %v) = %x, %d; want %x", s, o, got, e, want)
			}
		}
	}
}

func TestP6_2Examples(t *testing.T) {
	for _, c := range []struct {
		s        string
		strength int
		want     string
	}{
		{"a", 3, "\x00\x80\x00\x00\x00\x00\x00\x20\x00\x00\x02\x00"},
		{"a", 1, "\x00\x80\x00\x00\x00\x00"},
		{"", 1, "\x00\x00\x00"},
		{"", 4, "\x00\x00\x00\x00\x00\x00"},
		{"\x00", 4, "\x00\x00\x00\x00\x00\x00\x00"},
		{"É", 2, "\x00\x80\x10\x00\x00\x00\x00\x20\x00\x22\x00\x00"},
		{"É", 4, "\x00\x80\x10\x00\x00\x00\x00\x20\x00\x22\x00\x00\x03\x00\xC3\x89"},
		{"\u036F", 2, "\x00\x00\x00\x00\x90\x00\x00"},
		{"\U0010FFFF", 1, "\x11\xFF\xFF\x00\x00\x00"},
	} {
		if got, e := collate.Key(c.s, collate.Options{Strength: c.strength}); got != c.want || e != api.OK {
			t.Errorf("Key(%q, %d) = %x, %d; want %x", c.s, c.strength, got, e, c.want)
		}
	}
}

func TestP6_3Compare(t *testing.T) {
	known := decompositions()
	for o := range options() {
		for _, a := range assorted() {
			for _, b := range assorted() {
				want := naive(known, a, b, o)
				if got, e := collate.Compare(a, b, o); got != want || e != api.OK {
					t.Fatalf("Compare(%q, %q, %v) = %d, %d; want %d", a, b, o, got, e, want)
				}
			}
		}
	}
}

func TestP6_3Examples(t *testing.T) {
	for _, c := range []struct {
		a, b string
		o    collate.Options
		want int
	}{
		{"Élan", "elan", collate.Options{Strength: 1}, 0},
		{"elan", "Élan", collate.Options{Strength: 2}, -1},
		{"elan", "Elan", collate.Options{Strength: 2}, 0},
		{"elan", "Elan", collate.Options{Strength: 3}, -1},
		{"elan", "Elan", collate.Options{Strength: 3, UpperFirst: true}, 1},
		{"page 9", "page 10", collate.Options{Strength: 1, Numeric: true}, -1},
		{"page 9", "page 10", collate.Options{Strength: 1}, 1},
		{"007", "7", collate.Options{Strength: 3, Numeric: true}, 0},
		{"007", "7", collate.Options{Strength: 4, Numeric: true}, -1},
		{"007", "7", collate.Options{Strength: 1}, -1},
		{"co-op", "coop", collate.Options{Strength: 3, Ignore: true}, 0},
		{"co-op", "coop", collate.Options{Strength: 4, Ignore: true}, -1},
		{"co-op", "coop", collate.Options{Strength: 1}, -1},
		{"e\u0301", "é", collate.Options{Strength: 3}, 0},
		{"e\u0301", "é", collate.Options{Strength: 4}, -1},
		{"", "\u00AD", collate.Options{Strength: 3}, 0},
		{"", "\u00AD", collate.Options{Strength: 4}, -1},
		{"a", "ab", collate.Options{Strength: 1}, -1},
		{"é a", "e b", collate.Options{Strength: 4}, -1}, // a letter behind decides before an accent in front
	} {
		if got, e := collate.Compare(c.a, c.b, c.o); got != c.want || e != api.OK {
			t.Errorf("Compare(%q, %q, %v) = %d, %d; want %d", c.a, c.b, c.o, got, e, c.want)
		}
		if got, e := collate.Compare(c.b, c.a, c.o); got != -c.want || e != api.OK {
			t.Errorf("Compare(%q, %q, %v) = %d, %d; want %d", c.b, c.a, c.o, got, e, -c.want)
		}
	}
}

// inserted sorts by putting each string behind those that are not greater.
func inserted(known map[rune][]rune, list []string, o collate.Options) []string {
	var sorted []string
	for _, s := range list {
		at := len(sorted)
		for at > 0 && naive(known, sorted[at-1], s, o) > 0 {
			at--
		}
		sorted = slices.Insert(sorted, at, s)
	}
	return sorted
}

func TestP6_4Sort(t *testing.T) {
	known := decompositions()
	backward := assorted()
	slices.Reverse(backward)
	mixed := slices.Concat(assorted()[20:], backward, assorted()[:20])
	for o := range options() {
		for _, list := range [][]string{nil, {}, {"b"}, {"E", "e", "é", "E", "É", "a"}, assorted(), backward, mixed} {
			before := slices.Clone(list)
			want := inserted(known, list, o)
			if got, e := collate.Sort(list, o); !slices.Equal(got, want) || e != api.OK {
				t.Fatalf("Sort(%q, %v) = %q, %d; want %q", list, o, got, e, want)
			}
			if !slices.Equal(list, before) {
				t.Fatalf("Sort changed its argument")
			}
		}
	}
}

func TestP6_4Errors(t *testing.T) {
	for _, c := range []struct {
		list []string
		want api.Errno
	}{
		{[]string{"b", invalid, tooLong()}, api.ErrUTF8},
		{[]string{"b", tooLong(), invalid}, api.ErrLong},
		{[]string{"b", "a", invalid}, api.ErrUTF8},
	} {
		if l, e := collate.Sort(c.list, collate.Options{Strength: 2}); len(l) != 0 || e != c.want {
			t.Errorf("Sort = %q, %d; want %d", l, e, c.want)
		}
		if l, e := collate.Sort(c.list, collate.Options{Strength: 5}); len(l) != 0 || e != api.ErrValue {
			t.Errorf("Sort = %q, %d; want %d", l, e, api.ErrValue)
		}
	}
	if l, e := collate.Sort(nil, collate.Options{}); len(l) != 0 || e != api.ErrValue {
		t.Errorf("Sort of nothing without a strength = %q, %d", l, e)
	}
}

func TestP6_5HasPrefix(t *testing.T) {
	known := decompositions()
	for o := range options() {
		for _, s := range assorted() {
			for _, prefix := range assorted() {
				whole, begin := weights(elements(known, s, o))[0], weights(elements(known, prefix, o))[0]
				want := len(begin) <= len(whole)
				for i := 0; want && i < len(begin); i++ {
					want = whole[i] == begin[i]
				}
				if got, e := collate.HasPrefix(s, prefix, o); got != want || e != api.OK {
					t.Fatalf("HasPrefix(%q, %q, %v) = %v, %d", s, prefix, o, got, e)
				}
			}
		}
	}
	for _, c := range []struct {
		s, prefix string
		o         collate.Options
		want      bool
	}{
		{"Élan", "EL", collate.Options{Strength: 4}, true},
		{"elan", "élan", collate.Options{Strength: 1}, true},
		{"elan", "elane", collate.Options{Strength: 1}, false},
		{"", "", collate.Options{Strength: 1}, true},
		{"", "\u0301", collate.Options{Strength: 3}, true},
		{"", "-", collate.Options{Strength: 3}, false},
		{"", "-", collate.Options{Strength: 3, Ignore: true}, true},
		{"10", "1", collate.Options{Strength: 1}, true},
		{"10", "1", collate.Options{Strength: 1, Numeric: true}, false},
		{"010 b", "10", collate.Options{Strength: 1, Numeric: true}, true},
		{"strasse", "straß", collate.Options{Strength: 1}, true},
	} {
		if got, e := collate.HasPrefix(c.s, c.prefix, c.o); got != c.want || e != api.OK {
			t.Errorf("HasPrefix(%q, %q, %v) = %v, %d", c.s, c.prefix, c.o, got, e)
		}
	}
}

func TestP6_6Initial(t *testing.T) {
	known := decompositions()
	for o := range options() {
		for s := range samples.Strings(parts(), 3) {
			want := ""
			if list := weights(elements(known, s, o))[0]; len(list) > 0 {
				p := list[0]
				switch {
				case p >= 512 && p <= 32767:
					want = "0-9"
				case p >= 32768 && p <= 32768+4*25:
					want = "ABCDEFGHIJKLMNOPQRSTUVWXYZ"[(p-32768)/4:][:1]
				}
			}
			if got, e := collate.Initial(s, o); got != want || e != api.OK {
				t.Fatalf("Initial(%q, %v) = %q, %d; want %q", s, o, got, e, want)
			}
		}
	}
}

func TestP6_6Examples(t *testing.T) {
	o := collate.Options{Strength: 1}
	for s, want := range map[string]string{
		"éclair": "E", "42": "0-9", "(x)": "", "": "", "\u00AD": "", "\u0301": "", "\u0301z": "Z", "\tß": "S", "æ": "A", "Øre": "O", "ÿ": "Y",
		"\u00DE": "", "\u00D7": "", "\u00F7": "", "\u00F0": "", "\u4E00": "", " a": "", "0": "0-9", "9": "0-9", "~": "",
	} {
		if got, e := collate.Initial(s, o); got != want || e != api.OK {
			t.Errorf("Initial(%q) = %q, %d; want %q", s, got, e, want)
		}
	}
	for i := range 26 {
		capital := string(rune('A' + i))
		for _, s := range []string{capital, strings.ToLower(capital) + "q"} {
			if got, e := collate.Initial(s, o); got != capital || e != api.OK {
				t.Errorf("Initial(%q) = %q, %d", s, got, e)
			}
		}
	}
	if got, e := collate.Initial("(x)", collate.Options{Strength: 4, Ignore: true}); got != "X" || e != api.OK {
		t.Errorf("Initial = %q, %d", got, e)
	}
	if got, e := collate.Initial("007", collate.Options{Strength: 4, Numeric: true}); got != "0-9" || e != api.OK {
		t.Errorf("Initial = %q, %d", got, e)
	}
}

// orders returns the result of Compare for each pair of strings, and checks that it is the order of the keys.
func orders(t *testing.T, list []string, o collate.Options) [][]int {
	t.Helper()
	keys := make([]string, len(list))
	for i, s := range list {
		keys[i], _ = collate.Key(s, o)
	}
	table := make([][]int, len(list))
	for i, a := range list {
		for j, b := range list {
			order, e := collate.Compare(a, b, o)
			if order != cmp.Compare(keys[i], keys[j]) || e != api.OK {
				t.Fatalf("Compare(%q, %q, %v) = %d, %d", a, b, o, order, e)
			}
			table[i] = append(table[i], order)
		}
	}
	return table
}

func TestP6_7Preorder(t *testing.T) {
	list := assorted()
	for o := range options() {
		table := orders(t, list, o)
		for i := range list {
			for j := range list {
				if table[i][j] != -table[j][i] || o.Strength == 4 && table[i][j] == 0 && list[i] != list[j] {
					t.Fatalf("%v: the order of %q and %q is %d and %d", o, list[i], list[j], table[i][j], table[j][i])
				}
				for k := range list {
					if table[i][j] <= 0 && table[j][k] <= 0 && table[i][k] != min(table[i][j], table[j][k]) {
						t.Fatalf("%v: %q, %q and %q are in no order", o, list[i], list[j], list[k])
					}
				}
			}
		}
	}
}

func TestP6_7Strengths(t *testing.T) {
	list := assorted()
	for o := range options() {
		if o.Strength == 4 {
			continue
		}
		greater := o
		greater.Strength++
		weak, strong := orders(t, list, o), orders(t, list, greater)
		for i := range list {
			for j := range list {
				if weak[i][j] != 0 && strong[i][j] != weak[i][j] {
					t.Fatalf("%v: the order of %q and %q is %d, but %d for the next strength", o, list[i], list[j], weak[i][j], strong[i][j])
				}
			}
		}
	}
}

func TestP6_7Numeric(t *testing.T) {
	value := func(digits string) int {
		n := 0
		for _, digit := range digits {
			n = 10*n + int(digit-'0')
		}
		return n
	}
	o := collate.Options{Strength: 1, Numeric: true}
	list := slices.Collect(samples.Strings([]string{"0", "1", "9"}, 3))[1:]
	for _, a := range list {
		for _, b := range list {
			if got, e := collate.Compare(a, b, o); got != cmp.Compare(value(a), value(b)) || e != api.OK {
				t.Errorf("Compare(%q, %q) = %d, %d", a, b, got, e)
			}
		}
	}
}

func TestP6_7Accents(t *testing.T) {
	for o := range options() {
		for c, two := range decompositions() {
			want := 0
			if o.Strength == 4 {
				want = cmp.Compare(string(c), string(two))
			}
			if got, e := collate.Compare("x"+string(c)+"y", "x"+string(two)+"y", o); got != want || e != api.OK {
				t.Errorf("Compare of %q and its parts, %v = %d, %d", c, o, got, e)
			}
		}
	}
}

func TestP6_7NewMemory(t *testing.T) {
	o := collate.Options{Strength: 3}
	first, _ := collate.Elements("ab", o)
	first[0].Primary = 0
	if second, _ := collate.Elements("ab", o); second[0].Primary != 32768 {
		t.Error("two results of Elements share memory")
	}
	list := []string{"b", "a"}
	sorted, _ := collate.Sort(list, o)
	sorted[0], sorted[1] = "x", "y"
	if list[0] != "b" || list[1] != "a" {
		t.Error("the result of Sort shares memory with its argument")
	}
}
