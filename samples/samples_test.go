package samples_test

import (
	"maps"
	"math"
	"slices"
	"testing"

	"obelus/api"
	"obelus/samples"
)

func TestStrings(t *testing.T) {
	got := slices.Collect(samples.Strings([]string{"a", "bc"}, 2))
	want := []string{"", "a", "bc", "aa", "abc", "bca", "bcbc"}
	if !slices.Equal(got, want) {
		t.Errorf("Strings = %q; want %q", got, want)
	}
	for s := range samples.Strings([]string{"a"}, 3) {
		if s == "aa" {
			break
		}
	}
}

func TestRanges(t *testing.T) {
	var got [][2]int
	for first, last := range samples.Ranges("D, 10-1F, x") {
		got = append(got, [2]int{first, last})
	}
	if want := [][2]int{{0xD, 0xD}, {0x10, 0x1F}, {-1, -1}}; !slices.Equal(got, want) {
		t.Errorf("Ranges = %v; want %v", got, want)
	}
	for range samples.Ranges("A, B") {
		break
	}
}

func TestUnits(t *testing.T) {
	bold := api.Head{Props: []api.Prop{{Key: api.KeyBold, Value: 1}}}
	units := samples.Units([]api.Item{{Kind: api.Text, Text: "a\u00e9", Head: bold}, {Kind: api.Text}, {Kind: api.Field, Text: "bc"}})
	if len(units) != 3 || units[0].Text != "a" || units[1].Text != "\u00e9" || len(units[1].Head.Props) != 1 || units[2].Text != "bc" {
		t.Errorf("Units = %+v", units)
	}
}

func TestNumbers(t *testing.T) {
	if list := samples.Numbers(); !slices.IsSorted(list) || list[0] != math.MinInt || list[len(list)-1] != math.MaxInt {
		t.Errorf("Numbers = %v", list)
	}
}

func TestClasses(t *testing.T) {
	got, ok := samples.Classes(map[int]string{1: "A-C, E", 2: "D"})
	if want := map[int]int{10: 1, 11: 1, 12: 1, 13: 2, 14: 1}; !ok || !maps.Equal(got, want) {
		t.Errorf("Classes = %v, %v; want %v", got, ok, want)
	}
	if got, ok := samples.Classes(map[int]string{1: "A-C", 2: "C-D"}); ok || got != nil {
		t.Errorf("Classes of overlapping ranges = %v, %v", got, ok)
	}
}
