package grapheme_test

import (
	"math"
	"slices"
	"strings"
	"testing"

	"obelus/api"
	"obelus/grapheme"
	"obelus/samples"
)

// classLists returns the lists of the chapter.
func classLists() map[int]string {
	return map[int]string{
		grapheme.CR:      "D",
		grapheme.LF:      "A",
		grapheme.Control: "0-9, B-C, E-1F, 7F-9F, AD, 200B, 200E-200F, 2028-202E, 2060-206F, FEFF, FFF0-FFFB, E0000-E001F, E0080-E00FF, E01F0-E0FFF",
		grapheme.Extend: "300-36F, 483-489, 591-5BD, 5BF, 5C1-5C2, 5C4-5C5, 5C7, 610-61A, 64B-65F, 670, 6D6-6DC, 6DF-6E4, 6E7-6E8, 6EA-6ED, " +
			"93A, 93C, 941-948, 94D, E31, E34-E3A, E47-E4E, 1AB0-1AFF, 1DC0-1DFF, 200C, 20D0-20FF, 302A-302F, 3099-309A, FE00-FE0F, FE20-FE2F, 1F3FB-1F3FF, E0020-E007F, E0100-E01EF",
		grapheme.Joiner:   "200D",
		grapheme.Prepend:  "600-605, 6DD, 70F, 8E2, 110BD",
		grapheme.Spacing:  "903, 93B, 93E-940, 949-94C, 94E-94F, E33, EB3",
		grapheme.L:        "1100-115F, A960-A97C",
		grapheme.V:        "1160-11A7, D7B0-D7C6",
		grapheme.T:        "11A8-11FF, D7CB-D7FB",
		grapheme.Regional: "1F1E6-1F1FF",
		grapheme.Pictographic: "A9, AE, 203C, 2049, 2122, 2139, 2194-2199, 21A9-21AA, 231A-231B, 23E9-23F3, 2600-2604, 2614-2615, 263A, 2648-2653, 2705, 2708-270D, 2728, 2764, 2795-2797, 2B50, " +
			"1F000-1F0FF, 1F300-1F3FA, 1F400-1F64F, 1F680-1F6FF, 1F900-1F9FF, 1FA70-1FAFF",
	}
}

// everyClass returns a code point of each class, and strange ones.
func everyClass() []string {
	return []string{"a", "\r", "\n", "\t", "\u0301", "\u200D", "\u0600", "\u0903", "\u1100", "\u1160", "\u11A8", "\uAC00", "\uAC01", "\U0001F1E6", "\U0001F468"}
}

// contextClasses returns code points for which it matters what stands further before them.
func contextClasses() []string {
	return []string{"a", "\u0301", "\u200D", "\U0001F1E6", "\U0001F468", "\u0600"}
}

// isBoundary follows the words of the rules, and looks back as far as it needs.
func isBoundary(classes []int, at int) bool {
	if at == 0 || at == len(classes) {
		return true
	}
	a, b := classes[at-1], classes[at]
	in := func(class int, list ...int) bool { return slices.Contains(list, class) }
	if a == grapheme.CR && b == grapheme.LF {
		return false
	}
	if in(a, grapheme.CR, grapheme.LF, grapheme.Control) || in(b, grapheme.CR, grapheme.LF, grapheme.Control) {
		return true
	}
	if a == grapheme.L && in(b, grapheme.L, grapheme.V, grapheme.LV, grapheme.LVT) ||
		in(a, grapheme.LV, grapheme.V) && in(b, grapheme.V, grapheme.T) ||
		in(a, grapheme.LVT, grapheme.T) && b == grapheme.T {
		return false
	}
	if in(b, grapheme.Extend, grapheme.Joiner, grapheme.Spacing) || a == grapheme.Prepend {
		return false
	}
	if a == grapheme.Joiner && b == grapheme.Pictographic {
		i := at - 2
		for i >= 0 && classes[i] == grapheme.Extend {
			i--
		}
		if i >= 0 && classes[i] == grapheme.Pictographic {
			return false
		}
	}
	flags := 0
	for i := at - 1; i >= 0 && classes[i] == grapheme.Regional; i-- {
		flags++
	}
	return !(b == grapheme.Regional && flags%2 == 1)
}

func boundaries(s string) []int {
	var classes []int
	for _, r := range s {
		classes = append(classes, grapheme.Class(int(r)))
	}
	var list []int
	for at := range len(classes) + 1 {
		if isBoundary(classes, at) {
			list = append(list, at)
		}
	}
	return list
}

func TestP1AllArguments(t *testing.T) {
	for s := range samples.Strings([]string{"a", "\u0301", "\U0001F1E6", "\r", "\xE2\x82", "\xFF"}, 2) {
		for _, n := range samples.Numbers() {
			if is, e := grapheme.IsBoundary(s, n); e != api.OK && is {
				t.Errorf("IsBoundary(%q, %d) = true, %d", s, n, e)
			}
			for _, f := range []func(string, int) (int, api.Errno){grapheme.Next, grapheme.Prev, grapheme.Floor} {
				if at, e := f(s, n); e != api.OK && at != 0 {
					t.Errorf("%q, %d: %d, %d", s, n, at, e)
				}
			}
			if x, e := grapheme.Truncate(s, n); e != api.OK && x != "" {
				t.Errorf("Truncate(%q, %d) = %q, %d", s, n, x, e)
			}
		}
	}
}

func TestP2_1Constants(t *testing.T) {
	got := []int{grapheme.Other, grapheme.CR, grapheme.LF, grapheme.Control, grapheme.Extend, grapheme.Joiner, grapheme.Prepend, grapheme.Spacing,
		grapheme.L, grapheme.V, grapheme.T, grapheme.LV, grapheme.LVT, grapheme.Regional, grapheme.Pictographic}
	for i, class := range got {
		if class != i {
			t.Errorf("the class %d has the number %d", i, class)
		}
	}
}

func TestP2_1Class(t *testing.T) {
	want, ok := samples.Classes(classLists())
	if !ok {
		t.Fatal("ranges of two classes overlap")
	}
	for p := 0xAC00; p <= 0xD7A3; p++ {
		want[p] = grapheme.LVT
	}
	for p := 0xAC00; p <= 0xD7A3; p += 28 {
		want[p] = grapheme.LV
	}
	for p := -0x100; p <= 0x110100; p++ {
		if got := grapheme.Class(p); got != want[p] {
			t.Errorf("Class(%#x) = %d; want %d", p, got, want[p])
		}
	}
	for _, p := range []int{math.MinInt, 1<<32 + 0xD, math.MaxInt} {
		if got := grapheme.Class(p); got != grapheme.Other {
			t.Errorf("Class(%#x) = %d", p, got)
		}
	}
}

func checkClusters(t *testing.T, s string) {
	t.Helper()
	want := boundaries(s)
	got, e := grapheme.Boundaries(s)
	if !slices.Equal(got, want) || e != api.OK {
		t.Fatalf("Boundaries(%q) = %v, %d; want %v", s, got, e, want)
	}
	var parts []string
	runes := []rune(s)
	for i := 1; i < len(want); i++ {
		parts = append(parts, string(runes[want[i-1]:want[i]]))
	}
	if clusters, e := grapheme.Clusters(s); !slices.Equal(clusters, parts) || e != api.OK {
		t.Fatalf("Clusters(%q) = %q, %d; want %q", s, clusters, e, parts)
	}
	if n, e := grapheme.Count(s); n != len(parts) || e != api.OK {
		t.Fatalf("Count(%q) = %d, %d; want %d", s, n, e, len(parts))
	}
}

func TestP2_2Clusters(t *testing.T) {
	for s := range samples.Strings(everyClass(), 3) {
		checkClusters(t, s)
	}
	for s := range samples.Strings(contextClasses(), 6) {
		checkClusters(t, s)
	}
}

func TestP2_2Examples(t *testing.T) {
	for s, want := range map[string][]int{
		"":                              {0},
		"e\u0301x":                      {0, 2, 3},
		"\r\n":                          {0, 2},
		"\n\r":                          {0, 1, 2},
		"\U0001F468\u200D\U0001F469":    {0, 3},
		"a\u200D\U0001F469":             {0, 2, 3},
		"\u1100\uAC00\u11A8":            {0, 3},
		"\uAC01\u1161":                  {0, 1, 2},
		strings.Repeat("\U0001F1E6", 5): {0, 2, 4, 5},
	} {
		if got, e := grapheme.Boundaries(s); !slices.Equal(got, want) || e != api.OK {
			t.Errorf("Boundaries(%q) = %v, %d; want %v", s, got, e, want)
		}
	}
}

func TestP2_2Invalid(t *testing.T) {
	for _, s := range []string{"\xFF", "a\xC3", "\xED\xA0\x80", "\xC0\x80", "\xF4\x90\x80\x80"} {
		if list, e := grapheme.Boundaries(s); len(list) != 0 || e != api.ErrUTF8 {
			t.Errorf("Boundaries(%q) = %v, %d", s, list, e)
		}
		if list, e := grapheme.Clusters(s); len(list) != 0 || e != api.ErrUTF8 {
			t.Errorf("Clusters(%q) = %q, %d", s, list, e)
		}
		if n, e := grapheme.Count(s); n != 0 || e != api.ErrUTF8 {
			t.Errorf("Count(%q) = %d, %d", s, n, e)
		}
	}
}

func checkOffsets(t *testing.T, s string) {
	t.Helper()
	list := boundaries(s)
	end := list[len(list)-1]
	for at := 0; at <= end; at++ {
		next, prev, floor := end, 0, 0
		for _, b := range slices.Backward(list) {
			if b > at {
				next = b
			}
		}
		for _, b := range list {
			if b < at {
				prev = b
			}
			if b <= at {
				floor = b
			}
		}
		if is, e := grapheme.IsBoundary(s, at); is != slices.Contains(list, at) || e != api.OK {
			t.Fatalf("IsBoundary(%q, %d) = %v, %d", s, at, is, e)
		}
		if got, e := grapheme.Next(s, at); got != next || e != api.OK {
			t.Fatalf("Next(%q, %d) = %d, %d; want %d", s, at, got, e, next)
		}
		if got, e := grapheme.Prev(s, at); got != prev || e != api.OK {
			t.Fatalf("Prev(%q, %d) = %d, %d; want %d", s, at, got, e, prev)
		}
		if got, e := grapheme.Floor(s, at); got != floor || e != api.OK {
			t.Fatalf("Floor(%q, %d) = %d, %d; want %d", s, at, got, e, floor)
		}
	}
}

func TestP2_3Offsets(t *testing.T) {
	for s := range samples.Strings(everyClass(), 2) {
		checkOffsets(t, s)
	}
	for s := range samples.Strings(contextClasses(), 4) {
		checkOffsets(t, s)
	}
}

func TestP2_3Invalid(t *testing.T) {
	for _, c := range []struct {
		s    string
		at   int
		want api.Errno
	}{
		{"", 1, api.ErrRange}, {"", -1, api.ErrRange}, {"e\u0301", 3, api.ErrRange}, {"e\u0301", math.MinInt, api.ErrRange},
		{"e\u0301", math.MaxInt, api.ErrRange}, {"a\xFF", 0, api.ErrUTF8}, {"a\xFF", -1, api.ErrUTF8}, {"a\xFF", 9, api.ErrUTF8},
	} {
		if is, e := grapheme.IsBoundary(c.s, c.at); is || e != c.want {
			t.Errorf("IsBoundary(%q, %d) = %v, %d", c.s, c.at, is, e)
		}
		for i, f := range []func(string, int) (int, api.Errno){grapheme.Next, grapheme.Prev, grapheme.Floor} {
			if at, e := f(c.s, c.at); at != 0 || e != c.want {
				t.Errorf("%d: %q, %d: %d, %d", i, c.s, c.at, at, e)
			}
		}
	}
}

func TestP2_4Truncate(t *testing.T) {
	for s := range samples.Strings(everyClass(), 3) {
		runes := []rune(s)
		list := boundaries(s)
		for n := range len(list) + 2 {
			want := s
			if n < len(list) {
				want = string(runes[:list[n]])
			}
			if got, e := grapheme.Truncate(s, n); got != want || e != api.OK {
				t.Fatalf("Truncate(%q, %d) = %q, %d; want %q", s, n, got, e, want)
			}
		}
	}
	if got, e := grapheme.Truncate("ab", math.MaxInt); got != "ab" || e != api.OK {
		t.Errorf("Truncate = %q, %d", got, e)
	}
	for _, n := range []int{-1, math.MinInt} {
		if got, e := grapheme.Truncate("ab", n); got != "" || e != api.ErrRange {
			t.Errorf("Truncate(ab, %d) = %q, %d", n, got, e)
		}
		if got, e := grapheme.Truncate("ab\xFF", n); got != "" || e != api.ErrUTF8 {
			t.Errorf("Truncate(ab FF, %d) = %q, %d", n, got, e)
		}
	}
}

func TestP2_5Concatenation(t *testing.T) {
	for s := range samples.Strings(everyClass(), 3) {
		clusters, _ := grapheme.Clusters(s)
		if strings.Join(clusters, "") != s {
			t.Fatalf("Clusters(%q) = %q", s, clusters)
		}
		for _, c := range clusters {
			if n, _ := grapheme.Count(c); n != 1 {
				t.Fatalf("the cluster %q of %q has %d clusters", c, s, n)
			}
		}
	}
}

func TestP2_5Rest(t *testing.T) {
	for s := range samples.Strings(contextClasses(), 5) {
		runes := []rune(s)
		list, _ := grapheme.Boundaries(s)
		for i, b := range list {
			rest, _ := grapheme.Boundaries(string(runes[b:]))
			for k := range rest {
				rest[k] += b
			}
			if !slices.Equal(rest, list[i:]) {
				t.Fatalf("the boundaries of %q are %v, but those from %d on %v", s, list, b, rest)
			}
		}
	}
}

func TestP2_5Visits(t *testing.T) {
	for s := range samples.Strings(contextClasses(), 4) {
		list, _ := grapheme.Boundaries(s)
		end := list[len(list)-1]
		visited := []int{0}
		for at := 0; at < end; {
			at, _ = grapheme.Next(s, at)
			visited = append(visited, at)
		}
		if !slices.Equal(visited, list) {
			t.Fatalf("Next visits %v of %q; want %v", visited, s, list)
		}
		visited = []int{end}
		for at := end; at > 0; {
			at, _ = grapheme.Prev(s, at)
			visited = append(visited, at)
		}
		slices.Reverse(visited)
		if !slices.Equal(visited, list) {
			t.Fatalf("Prev visits %v of %q; want %v", visited, s, list)
		}
	}
}

func TestP2_2NewMemory(t *testing.T) {
	first, _ := grapheme.Boundaries("ab")
	first[1] = 9
	if second, _ := grapheme.Boundaries("ab"); second[1] != 1 {
		t.Error("the result of Boundaries is shared between calls")
	}
}
