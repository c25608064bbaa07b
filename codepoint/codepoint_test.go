package codepoint_test

import (
	"cmp"
	"math"
	"slices"
	"strings"
	"testing"
	"unicode/utf8"

	"obelus/api"
	"obelus/codepoint"
	"obelus/samples"
)

// edgeBytes returns the bytes at which the rules of the encodings change, as strings.
func edgeBytes() []string {
	var list []string
	for _, b := range []byte{0x00, 0x61, 0x7F, 0x80, 0x8F, 0x90, 0x9F, 0xA0, 0xBF, 0xC0, 0xC1, 0xC2, 0xDF, 0xE0, 0xE1, 0xED, 0xEF, 0xF0, 0xF1, 0xF4, 0xF5, 0xFF} {
		list = append(list, string([]byte{b}))
	}
	return list
}

// edgePoints returns the encodings of the first and last code points of each length.
func edgePoints() []string {
	return []string{"\x00", "A", "\x7F", "\u0080", "\u07FF", "\u0800", "\uD7FF", "\uE000", "\uFFFF", "\U00010000", "\U0010FFFF"}
}

// encoding writes a code point with the arithmetic of the chapter.
func encoding(p int) string {
	further := func(divisor int) byte { return byte(0x80 + p/divisor%64) }
	switch {
	case p < 0x80:
		return string([]byte{byte(p)})
	case p < 0x800:
		return string([]byte{byte(0xC0 + p/64), further(1)})
	case p < 0x10000:
		return string([]byte{byte(0xE0 + p/4096), further(64), further(1)})
	}
	return string([]byte{byte(0xF0 + p/262144), further(4096), further(64), further(1)})
}

func isPoint(p int) bool { return p >= 0 && p <= 0x10FFFF && (p < 0xD800 || p > 0xDFFF) }

// firstError returns the offset of the first byte at which the library finds no encoding, or -1.
func firstError(s string) int {
	for at := 0; at < len(s); {
		r, size := utf8.DecodeRuneInString(s[at:])
		if r == utf8.RuneError && size == 1 {
			return at
		}
		at += size
	}
	return -1
}

func TestP1AllArguments(t *testing.T) {
	for s := range samples.Strings([]string{"a", "\u00e9", "\U0001F600", "\xE2\x82", "\xED\xA0\x80", "\xFF"}, 2) {
		for _, n := range samples.Numbers() {
			if point, size, e := codepoint.At(s, n); e != api.OK && (point != 0 || size != 0) {
				t.Errorf("At(%q, %d) = %d, %d, %d", s, n, point, size, e)
			}
			if offset, e := codepoint.Offset(s, n); e != api.OK && offset != 0 {
				t.Errorf("Offset(%q, %d) = %d, %d", s, n, offset, e)
			}
			if unit, e := codepoint.Unit(s, n); e != api.OK && unit != 0 {
				t.Errorf("Unit(%q, %d) = %d, %d", s, n, unit, e)
			}
			for _, m := range samples.Numbers() {
				if part, e := codepoint.Slice(s, n, m); e != api.OK && part != "" {
					t.Errorf("Slice(%q, %d, %d) = %q, %d", s, n, m, part, e)
				}
			}
		}
		codepoint.Fold(s)
		codepoint.IsName(s)
	}
}

func TestP1_1IsPoint(t *testing.T) {
	for p := -0x1000; p <= 0x120000; p++ {
		if codepoint.IsPoint(p) != isPoint(p) {
			t.Errorf("IsPoint(%#x) = %v", p, !isPoint(p))
		}
	}
	for _, p := range []int{math.MinInt, math.MaxInt, 0xD800 + 1<<32, 1 << 32} {
		if codepoint.IsPoint(p) {
			t.Errorf("IsPoint(%#x) = true", p)
		}
	}
}

func TestP1_1ValidAndFirst(t *testing.T) {
	for s := range samples.Strings(edgeBytes(), 4) {
		want := firstError(s)
		if got := codepoint.First(s); got != want {
			t.Fatalf("First(%q) = %d; want %d", s, got, want)
		}
		if got := codepoint.Valid(s); got != (want == -1) {
			t.Fatalf("Valid(%q) = %v", s, got)
		}
	}
	for p := range 0x110000 {
		if s := encoding(p); codepoint.Valid(s) != isPoint(p) {
			t.Errorf("Valid of the encoding of %#x = %v", p, !isPoint(p))
		}
	}
	if got := codepoint.First("a\u20ac\U0001F600\xF0\x9F\x98"); got != 8 {
		t.Errorf("First = %d; want 8", got)
	}
}

func TestP1_2CountAndPoints(t *testing.T) {
	for s := range samples.Strings(edgePoints(), 3) {
		var want []int
		for _, r := range s {
			want = append(want, int(r))
		}
		if n, e := codepoint.Count(s); n != len(want) || e != api.OK {
			t.Errorf("Count(%q) = %d, %d", s, n, e)
		}
		if points, e := codepoint.Points(s); !slices.Equal(points, want) || e != api.OK {
			t.Errorf("Points(%q) = %v, %d", s, points, e)
		}
	}
	for _, s := range []string{"\x80", "ab\xC3", "\xED\xA0\x80b", "\xC0\x80", "\xF4\x90\x80\x80"} {
		if n, e := codepoint.Count(s); n != 0 || e != api.ErrUTF8 {
			t.Errorf("Count(%q) = %d, %d", s, n, e)
		}
		if points, e := codepoint.Points(s); len(points) != 0 || e != api.ErrUTF8 {
			t.Errorf("Points(%q) = %v, %d", s, points, e)
		}
	}
}

func TestP1_2Make(t *testing.T) {
	for p := range 0x110000 {
		want, wantErr := encoding(p), api.OK
		if !isPoint(p) {
			want, wantErr = "", api.ErrRange
		}
		if s, e := codepoint.Make([]int{p}); s != want || e != wantErr {
			t.Errorf("Make(%#x) = %q, %d", p, s, e)
		}
	}
	if s, e := codepoint.Make(nil); s != "" || e != api.OK {
		t.Errorf("Make(nil) = %q, %d", s, e)
	}
	if s, e := codepoint.Make([]int{'a', 0xE9, 0x1F600}); s != "a\u00e9\U0001F600" || e != api.OK {
		t.Errorf("Make = %q, %d", s, e)
	}
	for _, p := range []int{math.MinInt, -1, 0x110000, 1<<32 + 'a', math.MaxInt} {
		if s, e := codepoint.Make([]int{'a', p, 'b'}); s != "" || e != api.ErrRange {
			t.Errorf("Make(a, %#x, b) = %q, %d", p, s, e)
		}
	}
}

func TestP1_3At(t *testing.T) {
	for s := range samples.Strings(edgeBytes(), 3) {
		for offset := -1; offset <= len(s); offset++ {
			wantPoint, wantSize, wantErr := 0, 0, api.ErrRange
			if offset >= 0 && offset < len(s) {
				r, size := utf8.DecodeRuneInString(s[offset:])
				wantPoint, wantSize, wantErr = int(r), size, api.OK
				if r == utf8.RuneError && size == 1 {
					wantPoint, wantSize, wantErr = 0, 0, api.ErrUTF8
				}
			}
			if point, size, e := codepoint.At(s, offset); point != wantPoint || size != wantSize || e != wantErr {
				t.Fatalf("At(%q, %d) = %#x, %d, %d", s, offset, point, size, e)
			}
		}
	}
	for p := range 0x110000 {
		s := "\xFF" + encoding(p) + "\xFF"
		point, size, e := codepoint.At(s, 1)
		if isPoint(p) && (point != p || size != len(s)-2 || e != api.OK) || !isPoint(p) && e != api.ErrUTF8 {
			t.Errorf("At(%q, 1) = %#x, %d, %d", s, point, size, e)
		}
	}
}

func TestP1_4OffsetAndUnit(t *testing.T) {
	for s := range samples.Strings(edgePoints(), 3) {
		starts := make(map[int]int)
		units := 0
		for at := range s {
			starts[at] = units
			units++
		}
		starts[len(s)] = units
		for at := -2; at <= len(s)+2; at++ {
			unit, e := codepoint.Unit(s, at)
			want, found := starts[at]
			if !found && (unit != 0 || e != api.ErrRange) || found && (unit != want || e != api.OK) {
				t.Errorf("Unit(%q, %d) = %d, %d", s, at, unit, e)
			}
			if found {
				if offset, e := codepoint.Offset(s, want); offset != at || e != api.OK {
					t.Errorf("Offset(%q, %d) = %d, %d", s, want, offset, e)
				}
			}
		}
		for _, unit := range []int{math.MinInt, -1, units + 1, math.MaxInt} {
			if offset, e := codepoint.Offset(s, unit); offset != 0 || e != api.ErrRange {
				t.Errorf("Offset(%q, %d) = %d, %d", s, unit, offset, e)
			}
		}
	}
	for _, n := range samples.Numbers() {
		if offset, e := codepoint.Offset("ab\xFF", n); offset != 0 || e != api.ErrUTF8 {
			t.Errorf("Offset of an invalid string = %d, %d", offset, e)
		}
		if unit, e := codepoint.Unit("ab\xFF", n); unit != 0 || e != api.ErrUTF8 {
			t.Errorf("Unit of an invalid string = %d, %d", unit, e)
		}
	}
}

func TestP1_5Slice(t *testing.T) {
	for s := range samples.Strings(edgePoints(), 3) {
		runes := []rune(s)
		for from := -1; from <= len(runes)+1; from++ {
			for to := -1; to <= len(runes)+1; to++ {
				want, wantErr := "", api.ErrRange
				if 0 <= from && from <= to && to <= len(runes) {
					want, wantErr = string(runes[from:to]), api.OK
				}
				if part, e := codepoint.Slice(s, from, to); part != want || e != wantErr {
					t.Errorf("Slice(%q, %d, %d) = %q, %d", s, from, to, part, e)
				}
			}
		}
	}
	if part, e := codepoint.Slice("ab\xC3", 2, 1); part != "" || e != api.ErrUTF8 {
		t.Errorf("Slice of an invalid string = %q, %d", part, e)
	}
	if part, e := codepoint.Slice("ab\xC3", 0, 1); part != "" || e != api.ErrUTF8 {
		t.Errorf("Slice of an invalid string = %q, %d", part, e)
	}
}

// beginnings returns the sequences of at most three bytes with which encodings begin.
func beginnings() map[string]bool {
	list := make(map[string]bool)
	for p := range 0x110000 {
		if isPoint(p) {
			s := encoding(p)
			for size := 1; size <= min(len(s), 3); size++ {
				list[s[:size]] = true
			}
		}
	}
	return list
}

// repair follows the words of P1.6.
func repair(s string, beginnings map[string]bool) string {
	var out strings.Builder
	for s != "" {
		if r, size := utf8.DecodeRuneInString(s); r != utf8.RuneError || size > 1 {
			out.WriteString(s[:size])
			s = s[size:]
			continue
		}
		size := min(len(s), 3)
		for size > 0 && !beginnings[s[:size]] {
			size--
		}
		out.WriteString("\uFFFD")
		s = s[max(size, 1):]
	}
	return out.String()
}

func TestP1_6Repair(t *testing.T) {
	known := beginnings()
	for s := range samples.Strings(edgeBytes(), 4) {
		if got, want := codepoint.Repair(s), repair(s, known); got != want {
			t.Fatalf("Repair(%q) = %q; want %q", s, got, want)
		}
	}
	for in, want := range map[string]string{
		"a\xE2\x82b":                    "a\uFFFDb",
		"\xC0\x80":                      "\uFFFD\uFFFD",
		"\xF0\x9F\x98\xF0\x9F\x98\x80x": "\uFFFD\U0001F600x",
		"a\uFFFD\u20ac":                 "a\uFFFD\u20ac",
		"\xF4\x8F\xBF":                  "\uFFFD",
		"\xF1\x80\x80\x80\x80":          "\U00040000\uFFFD",
	} {
		if got := codepoint.Repair(in); got != want {
			t.Errorf("Repair(%q) = %q; want %q", in, got, want)
		}
	}
}

func TestP1_7Fold(t *testing.T) {
	for b := range 256 {
		folded := b
		if 'A' <= b && b <= 'Z' {
			folded = b - 'A' + 'a'
		}
		s := string([]byte{'Z', 'x', byte(b), 'A'})
		want := string([]byte{'z', 'x', byte(folded), 'a'})
		if got := codepoint.Fold(s); got != want {
			t.Errorf("Fold(%q) = %q; want %q", s, got, want)
		}
	}
	if got := codepoint.Fold("\u00c9\u0130\u212a"); got != "\u00c9\u0130\u212a" {
		t.Errorf("Fold changed letters outside of ASCII: %q", got)
	}
}

func TestP1_7IsName(t *testing.T) {
	const letters = "abcdefghijklmnopqrstuvwxyzABCDEFGHIJKLMNOPQRSTUVWXYZ"
	for b := range 256 {
		one := string([]byte{byte(b)})
		isFirst := strings.Contains(letters, one)
		if got := codepoint.IsName(one); got != isFirst {
			t.Errorf("IsName(%q) = %v", one, got)
		}
		isLater := isFirst || strings.Contains("0123456789-_", one)
		if got := codepoint.IsName("q" + one); got != isLater {
			t.Errorf("IsName(%q) = %v", "q"+one, got)
		}
	}
	for s, want := range map[string]bool{
		"": false, strings.Repeat("n", api.MaxName): true, strings.Repeat("n", api.MaxName+1): false,
		"a-b_9": true, "ab cd": false, "_a": false, "-a": false, "0": false, "n\u00e9": false,
	} {
		if got := codepoint.IsName(s); got != want {
			t.Errorf("IsName(%q) = %v", s, got)
		}
	}
}

func TestP1_8Inverses(t *testing.T) {
	for s := range samples.Strings(edgePoints(), 3) {
		points, _ := codepoint.Points(s)
		if back, e := codepoint.Make(points); back != s || e != api.OK {
			t.Errorf("Make(Points(%q)) = %q, %d", s, back, e)
		}
		last := -1
		for unit := range len(points) + 1 {
			offset, _ := codepoint.Offset(s, unit)
			if back, e := codepoint.Unit(s, offset); back != unit || e != api.OK || offset <= last {
				t.Errorf("%q: unit %d, offset %d, back %d, %d", s, unit, offset, back, e)
			}
			last = offset
			left, _ := codepoint.Slice(s, 0, unit)
			right, _ := codepoint.Slice(s, unit, len(points))
			if left+right != s {
				t.Errorf("slices of %q at %d: %q, %q", s, unit, left, right)
			}
		}
	}
}

func TestP1_8RepairIsValid(t *testing.T) {
	for s := range samples.Strings(edgeBytes(), 3) {
		repaired := codepoint.Repair(s)
		valid := s
		if first := codepoint.First(s); first >= 0 {
			valid = s[:first]
		}
		if !utf8.ValidString(repaired) || !strings.HasPrefix(repaired, valid) || codepoint.Repair(repaired) != repaired {
			t.Fatalf("Repair(%q) = %q", s, repaired)
		}
	}
}

func TestP1_8Order(t *testing.T) {
	list := slices.Collect(samples.Strings(edgePoints(), 2))
	for _, a := range list {
		for _, b := range list {
			x, _ := codepoint.Points(a)
			y, _ := codepoint.Points(b)
			if slices.Compare(x, y) != cmp.Compare(a, b) {
				t.Errorf("%q and %q are in different orders as bytes and as code points", a, b)
			}
		}
	}
}

func TestP1_8NewMemory(t *testing.T) {
	first, _ := codepoint.Points("abc")
	first[0] = 'x'
	if second, _ := codepoint.Points("abc"); second[0] != 'a' {
		t.Error("the result of Points is shared between calls")
	}
	points := []int{'a', 'b'}
	s, _ := codepoint.Make(points)
	points[0] = 'x'
	if s != "ab" {
		t.Error("Make keeps its argument")
	}
}
