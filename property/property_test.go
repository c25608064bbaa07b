package property_test

import (
	"iter"
	"maps"
	"math"
	"math/rand/v2"
	"slices"
	"strconv"
	"strings"
	"testing"

	"obelus/api"
	"obelus/property"
	"obelus/samples"
)

// chapter is the table of keys as the chapter has it: key, name, group, Low, High and default.
const chapter = `
| 1 | character-style | Characters | 0 | 1073741824 | 0 |
| 2 | bold | Characters | 0 | 1 | 0 |
| 3 | italic | Characters | 0 | 1 | 0 |
| 4 | underline | Characters | 0 | 3 | 0 |
| 5 | size | Characters | 2 | 1638 | 22 |
| 6 | color | Characters | 0 | 16777215 | 0 |
| 7 | font | Characters | 0 | 63 | 0 |
| 8 | language | Characters | 0 | 255 | 0 |
| 9 | raise | Characters | -400 | 400 | 0 |
| 10 | hidden | Characters | 0 | 1 | 0 |
| 20 | paragraph-style | Paragraphs | 0 | 1073741824 | 0 |
| 21 | align | Paragraphs | 0 | 3 | 0 |
| 22 | left | Paragraphs | -31680 | 31680 | 0 |
| 23 | right | Paragraphs | -31680 | 31680 | 0 |
| 24 | first | Paragraphs | -31680 | 31680 | 0 |
| 25 | before | Paragraphs | 0 | 31680 | 0 |
| 26 | after | Paragraphs | 0 | 31680 | 0 |
| 27 | leading | Paragraphs | 0 | 31680 | 0 |
| 28 | keep-next | Paragraphs | 0 | 1 | 0 |
| 29 | keep-lines | Paragraphs | 0 | 1 | 0 |
| 30 | widow | Paragraphs | 0 | 1 | 1 |
| 31 | page-before | Paragraphs | 0 | 1 | 0 |
| 32 | outline | Paragraphs | 0 | 9 | 0 |
| 33 | list | Paragraphs | 0 | 1073741824 | 0 |
| 34 | level | Paragraphs | 1 | 9 | 1 |
| 35 | restart | Paragraphs | 0 | 32767 | 0 |
| 36 | tab-stop | Paragraphs | 1 | 31680 | 720 |
| 37 | hyphenate | Paragraphs | 0 | 1 | 0 |
| 40 | page-width | Sections | 720 | 31680 | 12240 |
| 41 | page-height | Sections | 720 | 31680 | 15840 |
| 42 | top | Sections | 0 | 31680 | 1440 |
| 43 | bottom | Sections | 0 | 31680 | 1440 |
| 44 | inner | Sections | 0 | 31680 | 1440 |
| 45 | outer | Sections | 0 | 31680 | 1440 |
| 46 | first-page | Sections | 0 | 32767 | 0 |
| 47 | page-format | Sections | 1 | 6 | 1 |
| 50 | header | Rows | 0 | 1 | 0 |
| 51 | cant-split | Rows | 0 | 1 | 0 |
| 52 | row-height | Rows | 0 | 31680 | 0 |
| 60 | column-span | Cells | 1 | 32 | 1 |
| 61 | vertical-merge | Cells | 0 | 2 | 0 |
| 62 | cell-width | Cells | 0 | 31680 | 0 |
| 63 | shade | Cells | 0 | 16777215 | 16777215 |
| 70 | table-width | Tables | 0 | 31680 | 0 |
| 71 | table-align | Tables | 0 | 2 | 0 |
`

// entry is a row of the chapter.
type entry struct {
	key               int
	name              string
	group             int
	low, high, preset int
}

// entries returns the rows of the chapter in their order.
func entries(t *testing.T) []entry {
	t.Helper()
	groups := map[string]int{
		"Characters": property.Characters, "Paragraphs": property.Paragraphs, "Sections": property.Sections,
		"Rows": property.Rows, "Cells": property.Cells, "Tables": property.Tables,
	}
	var list []entry
	for line := range strings.Lines(strings.TrimSpace(chapter)) {
		words := strings.Split(strings.Trim(line, "| \n"), " | ")
		if len(words) != 6 || groups[words[2]] == 0 {
			t.Fatalf("a strange line: %q", line)
		}
		var numbers [6]int
		for _, i := range []int{0, 3, 4, 5} {
			n, err := strconv.Atoi(words[i])
			if err != nil {
				t.Fatal(err)
			}
			numbers[i] = n
		}
		list = append(list, entry{numbers[0], words[1], groups[words[2]], numbers[3], numbers[4], numbers[5]})
	}
	if len(list) != 45 {
		t.Fatalf("%d rows", len(list))
	}
	return list
}

// byKey returns the rows of the chapter by their keys.
func byKey(t *testing.T) map[int]entry {
	t.Helper()
	rows := make(map[int]entry)
	for _, r := range entries(t) {
		rows[r.key] = r
	}
	return rows
}

// someKeys returns all numbers near keys, and strange ones.
func someKeys() []int {
	list := samples.Numbers()
	for key := -3; key <= 300; key++ {
		list = append(list, key)
	}
	return append(list, 1<<32+2, 1<<32+40)
}

// groupsOf returns the groups of the keys of each element.
func groupsOf() map[int][]int {
	characters := []int{property.Characters}
	return map[int][]int{
		api.Text: characters, api.Break: characters, api.Field: characters, api.Note: characters,
		api.Para:     {property.Paragraphs, property.Characters},
		api.Section:  {property.Sections},
		api.Table:    {property.Tables},
		api.Anchor:   nil,
		property.Row: {property.Rows}, property.Cell: {property.Cells},
	}
}

func prop(key, value int) api.Prop { return api.Prop{Key: key, Value: value} }

// list returns the properties of a map in increasing order of keys.
func list(values map[int]int) []api.Prop {
	var l []api.Prop
	for _, key := range slices.Sorted(maps.Keys(values)) {
		l = append(l, prop(key, values[key]))
	}
	return l
}

// toMap returns the properties of a list as a map.
func toMap(l []api.Prop) map[int]int {
	values := make(map[int]int)
	for _, p := range l {
		values[p.Key] = p.Value
	}
	return values
}

// lists yields all ordered lists with the keys 2, 5 and 21, and the values 0 and 7.
func lists() iter.Seq[[]api.Prop] {
	return func(yield func([]api.Prop) bool) {
		for code := range 27 {
			var l []api.Prop
			for i, key := range []int{2, 5, 21} {
				if digit := code / []int{1, 3, 9}[i] % 3; digit > 0 {
					l = append(l, prop(key, 7*(digit-1)))
				}
			}
			if !yield(l) {
				return
			}
		}
	}
}

// strange yields lists that are not ordered, or that no element has.
func strange() [][]api.Prop {
	return [][]api.Prop{
		nil, {}, {prop(math.MinInt, math.MaxInt)}, {prop(math.MaxInt, math.MinInt), prop(math.MinInt, 0)},
		{prop(5, 1), prop(5, 2), prop(5, 1)}, {prop(9, 1), prop(5, 2), prop(2, 1), prop(5, 3)}, {prop(0, 0), prop(-1, 1), prop(99, 1), prop(5, 5)},
	}
}

func TestP1AllArguments(t *testing.T) {
	for _, l := range strange() {
		before := slices.Clone(l)
		for _, key := range samples.Numbers() {
			if value, has := property.Get(l, key); !has && value != 0 {
				t.Errorf("Get(%v, %d) = %d, false", l, key, value)
			}
			property.Value(l, key)
			property.Set(l, key, key)
			property.Clear(l, key)
			property.Check(key, l)
		}
		for _, o := range strange() {
			property.Merge(l, o)
			property.Equal(l, o)
			changes := append(property.Diff(l, o), property.Change{Key: math.MinInt, Old: math.MaxInt, New: 1, Had: true}, property.Change{Key: 5, Has: true})
			if result, e := property.Apply(l, changes); e != api.OK && len(result) != 0 {
				t.Errorf("Apply(%v, %v) = %v, %d", l, changes, result, e)
			}
			property.Inverse(changes)
		}
		if !slices.Equal(l, before) {
			t.Errorf("an argument was changed from %v to %v", before, l)
		}
	}
}

func TestP7_1Table(t *testing.T) {
	rows := byKey(t)
	for _, key := range someKeys() {
		want, found := rows[key]
		wantErr := api.OK
		if !found {
			wantErr = api.ErrKey
		}
		if group, e := property.Group(key); group != want.group || e != wantErr {
			t.Errorf("Group(%d) = %d, %d", key, group, e)
		}
		if low, high, e := property.Bounds(key); low != want.low || high != want.high || e != wantErr {
			t.Errorf("Bounds(%d) = %d, %d, %d", key, low, high, e)
		}
		if preset, e := property.Default(key); preset != want.preset || e != wantErr {
			t.Errorf("Default(%d) = %d, %d", key, preset, e)
		}
		if name, e := property.Name(key); name != want.name || e != wantErr {
			t.Errorf("Name(%d) = %q, %d", key, name, e)
		}
	}
}

func TestP7_1Names(t *testing.T) {
	for _, r := range entries(t) {
		if key, e := property.Find(r.name); key != r.key || e != api.OK {
			t.Errorf("Find(%q) = %d, %d", r.name, key, e)
		}
		for _, name := range []string{r.name + " ", strings.ToUpper(r.name), r.name[1:], r.name[:len(r.name)-1] + "_"} {
			if key, e := property.Find(name); key != 0 || e != api.ErrKey {
				t.Errorf("Find(%q) = %d, %d", name, key, e)
			}
		}
	}
	for _, name := range []string{"", "KeyBold", "2", "\xFF"} {
		if key, e := property.Find(name); key != 0 || e != api.ErrKey {
			t.Errorf("Find(%q) = %d, %d", name, key, e)
		}
	}
}

func TestP7_1Keys(t *testing.T) {
	for _, group := range samples.Numbers() {
		var want []int
		for _, r := range entries(t) {
			if r.group == group {
				want = append(want, r.key)
			}
		}
		slices.Sort(want)
		if got := property.Keys(group); !slices.Equal(got, want) {
			t.Errorf("Keys(%d) = %d; want %d", group, got, want)
		}
	}
	if got := property.Keys(property.Tables); !slices.Equal(got, []int{70, 71}) {
		t.Errorf("Keys of tables = %d", got)
	}
	if property.Characters != 1 || property.Paragraphs != 2 || property.Sections != 3 || property.Rows != 4 || property.Cells != 5 || property.Tables != 6 || property.Row != 9 || property.Cell != 10 {
		t.Error("a constant has a wrong value")
	}
}

func TestP7_2Fits(t *testing.T) {
	rows, groups := byKey(t), groupsOf()
	if len(groups) != 10 {
		t.Fatalf("%d elements", len(groups))
	}
	for _, element := range append(samples.Numbers(), 6, 7, 8, 10, 11, 12, 1<<32+1) {
		for _, key := range someKeys() {
			r, found := rows[key]
			want := found && slices.Contains(groups[element], r.group)
			if got := property.Fits(element, key); got != want {
				t.Errorf("Fits(%d, %d) = %v", element, key, got)
			}
		}
	}
}

func TestP7_2CheckValue(t *testing.T) {
	rows := byKey(t)
	for _, key := range someKeys() {
		r, found := rows[key]
		for _, value := range []int{math.MinInt, r.low - 1, r.low, r.low + 1, r.preset, r.high - 1, r.high, r.high + 1, math.MaxInt} {
			want := api.OK
			switch {
			case !found:
				want = api.ErrKey
			case value < r.low || value > r.high:
				want = api.ErrValue
			}
			if e := property.CheckValue(key, value); e != want {
				t.Errorf("CheckValue(%d, %d) = %d; want %d", key, value, e, want)
			}
		}
	}
}

func TestP7_3Check(t *testing.T) {
	for _, c := range []struct {
		element int
		l       []api.Prop
		want    api.Errno
	}{
		{api.Text, []api.Prop{prop(21, 3)}, api.ErrKey},
		{api.Para, []api.Prop{prop(2, 1), prop(21, 3)}, api.OK},
		{property.Cell, []api.Prop{prop(60, 33)}, api.ErrValue},
		{0, []api.Prop{prop(99, 0)}, api.ErrKind},
		{11, nil, api.ErrKind},
		{-1, nil, api.ErrKind},
		{math.MinInt, nil, api.ErrKind},
		{math.MaxInt, []api.Prop{prop(2, 1)}, api.ErrKind},
		{api.Anchor, nil, api.OK},
		{api.Anchor, []api.Prop{prop(2, 1)}, api.ErrKey},
		{api.Text, []api.Prop{prop(2, 1), prop(3, 1), prop(10, 1)}, api.OK},
		{api.Text, []api.Prop{prop(2, 1), prop(2, 1)}, api.ErrDuplicate},
		{api.Text, []api.Prop{prop(3, 1), prop(2, 1)}, api.ErrOrder},
		{api.Text, []api.Prop{prop(2, 2)}, api.ErrValue},
		// For one property, the first error in the order of the chapter counts.
		{api.Text, []api.Prop{prop(2, 1), prop(2, 5)}, api.ErrDuplicate},
		{api.Text, []api.Prop{prop(3, 1), prop(2, 5)}, api.ErrOrder},
		{api.Text, []api.Prop{prop(3, 1), prop(0, 5)}, api.ErrKey},
		{api.Text, []api.Prop{prop(21, 1), prop(21, 9)}, api.ErrKey},
		// Of several properties, the error of the first one counts.
		{api.Text, []api.Prop{prop(2, 5), prop(2, 1)}, api.ErrValue},
		{api.Text, []api.Prop{prop(2, 5), prop(99, 1)}, api.ErrValue},
		{api.Text, []api.Prop{prop(2, 1), prop(2, 1), prop(99, 1)}, api.ErrDuplicate},
		{api.Text, []api.Prop{prop(3, 1), prop(2, 1), prop(2, 1)}, api.ErrOrder},
		{api.Text, []api.Prop{prop(2, 1), prop(3, 1), prop(2, 1)}, api.ErrOrder}, // a key that occurs earlier, but not directly before
		{property.Row, []api.Prop{prop(50, 1), prop(51, 0), prop(52, 31680)}, api.OK},
		{property.Row, []api.Prop{prop(60, 1)}, api.ErrKey},
		{api.Section, []api.Prop{prop(40, 719)}, api.ErrValue},
		{api.Section, []api.Prop{prop(2, 1)}, api.ErrKey},
		{api.Table, []api.Prop{prop(70, 0), prop(71, 2)}, api.OK},
	} {
		if e := property.Check(c.element, c.l); e != c.want {
			t.Errorf("Check(%d, %v) = %d; want %d", c.element, c.l, e, c.want)
		}
	}
}

func TestP7_3Full(t *testing.T) {
	rows := entries(t)
	for element, groups := range groupsOf() {
		var low, high []api.Prop
		for _, r := range rows {
			if slices.Contains(groups, r.group) {
				low, high = append(low, prop(r.key, r.low)), append(high, prop(r.key, r.high))
			}
		}
		for _, l := range [][]api.Prop{nil, low, high} {
			if e := property.Check(element, l); e != api.OK {
				t.Errorf("Check(%d, %v) = %d", element, l, e)
			}
			for i := range l {
				worse := slices.Clone(l)
				worse[i].Value = math.MaxInt
				if e := property.Check(element, worse); e != api.ErrValue {
					t.Errorf("Check(%d, %v) = %d", element, worse, e)
				}
				worse[i] = prop(0, 0)
				if e := property.Check(element, worse); e != api.ErrKey {
					t.Errorf("Check(%d, %v) = %d", element, worse, e)
				}
			}
		}
	}
}

func TestP7_4GetAndValue(t *testing.T) {
	rows := byKey(t)
	for l := range lists() {
		values := toMap(l)
		for _, key := range someKeys() {
			value, has := values[key]
			if got, gotHas := property.Get(l, key); got != value || gotHas != has {
				t.Fatalf("Get(%v, %d) = %d, %v", l, key, got, gotHas)
			}
			if !has {
				value = rows[key].preset
			}
			if got := property.Value(l, key); got != value {
				t.Fatalf("Value(%v, %d) = %d; want %d", l, key, got, value)
			}
		}
	}
	unknown := []api.Prop{prop(-7, 3), prop(99, -4)}
	if a, b := property.Value(unknown, -7), property.Value(unknown, 99); a != 3 || b != -4 {
		t.Errorf("values of unknown keys that are set: %d, %d", a, b)
	}
}

func TestP7_5SetAndClear(t *testing.T) {
	keys := []int{math.MinInt, 0, 1, 2, 3, 5, 9, 21, 99, math.MaxInt}
	for l := range lists() {
		before := slices.Clone(l)
		for _, key := range keys {
			cleared := toMap(l)
			delete(cleared, key)
			if got := property.Clear(l, key); !slices.Equal(got, list(cleared)) {
				t.Fatalf("Clear(%v, %d) = %v", l, key, got)
			}
			for _, value := range []int{math.MinInt, 0, 7, math.MaxInt} {
				set := toMap(l)
				set[key] = value
				if got := property.Set(l, key, value); !slices.Equal(got, list(set)) {
					t.Fatalf("Set(%v, %d, %d) = %v", l, key, value, got)
				}
			}
		}
		if !slices.Equal(l, before) {
			t.Fatalf("an argument was changed from %v to %v", before, l)
		}
	}
}

func TestP7_6Merge(t *testing.T) {
	for low := range lists() {
		for high := range lists() {
			merged := toMap(low)
			maps.Copy(merged, toMap(high))
			if got := property.Merge(low, high); !slices.Equal(got, list(merged)) {
				t.Fatalf("Merge(%v, %v) = %v", low, high, got)
			}
		}
	}
	got := property.Merge([]api.Prop{prop(2, 1), prop(5, 24)}, []api.Prop{prop(5, 20), prop(21, 3)})
	if want := []api.Prop{prop(2, 1), prop(5, 20), prop(21, 3)}; !slices.Equal(got, want) {
		t.Errorf("Merge = %v", got)
	}
}

func TestP7_7Diff(t *testing.T) {
	for a := range lists() {
		for b := range lists() {
			first, second := toMap(a), toMap(b)
			var want []property.Change
			for _, key := range []int{2, 5, 21} {
				older, had := first[key]
				newer, has := second[key]
				if had != has || older != newer {
					want = append(want, property.Change{Key: key, Old: older, New: newer, Had: had, Has: has})
				}
			}
			if got := property.Diff(a, b); !slices.Equal(got, want) {
				t.Fatalf("Diff(%v, %v) = %v; want %v", a, b, got, want)
			}
		}
	}
	got := property.Diff([]api.Prop{prop(2, 1)}, []api.Prop{prop(5, 24)})
	if want := []property.Change{{2, 1, 0, true, false}, {5, 0, 24, false, true}}; !slices.Equal(got, want) {
		t.Errorf("Diff = %v", got)
	}
}

// allChanges returns changes of the keys 2 and 5 that fit some lists.
func allChanges() []property.Change {
	var changes []property.Change
	for _, key := range []int{2, 5} {
		for _, older := range []int{0, 7} {
			for _, newer := range []int{0, 7} {
				for flags := range 4 {
					changes = append(changes, property.Change{Key: key, Old: older, New: newer, Had: flags&1 != 0, Has: flags&2 != 0})
				}
			}
		}
	}
	return changes
}

// naiveApply makes changes in a map.
func naiveApply(l []api.Prop, changes []property.Change) ([]api.Prop, api.Errno) {
	values := toMap(l)
	for _, c := range changes {
		value, had := values[c.Key]
		if had != c.Had || had && value != c.Old {
			return nil, api.ErrConflict
		}
		delete(values, c.Key)
		if c.Has {
			values[c.Key] = c.New
		}
	}
	return list(values), api.OK
}

func TestP7_7Apply(t *testing.T) {
	changes := allChanges()
	for l := range lists() {
		before := slices.Clone(l)
		for _, a := range changes {
			for _, b := range changes {
				for _, c := range [][]property.Change{nil, {a}, {a, b}, {a, b, a}} {
					want, wantErr := naiveApply(l, c)
					if got, e := property.Apply(l, c); !slices.Equal(got, want) || e != wantErr {
						t.Fatalf("Apply(%v, %v) = %v, %d; want %v, %d", l, c, got, e, want, wantErr)
					}
				}
			}
		}
		if !slices.Equal(l, before) {
			t.Fatalf("an argument was changed from %v to %v", before, l)
		}
	}
}

func TestP7_7ApplyExamples(t *testing.T) {
	l := []api.Prop{prop(2, 1), prop(5, 24)}
	for _, c := range []struct {
		changes []property.Change
		want    []api.Prop
		e       api.Errno
	}{
		{[]property.Change{{5, 24, 28, true, true}}, []api.Prop{prop(2, 1), prop(5, 28)}, api.OK},
		{[]property.Change{{5, 24, 28, true, true}, {5, 28, 0, true, false}}, []api.Prop{prop(2, 1)}, api.OK},
		{[]property.Change{{5, 24, 28, true, true}, {5, 24, 20, true, true}}, nil, api.ErrConflict},
		{[]property.Change{{5, 24, 24, false, true}}, nil, api.ErrConflict},
		{[]property.Change{{6, 0, 0, true, false}}, nil, api.ErrConflict},
		{[]property.Change{{6, 5, 5, false, false}}, l, api.OK}, // Old and New are not looked at
		{[]property.Change{{6, 5, 9, false, true}}, []api.Prop{prop(2, 1), prop(5, 24), prop(6, 9)}, api.OK},
		{[]property.Change{{2, 1, 8, true, false}}, []api.Prop{prop(5, 24)}, api.OK},
		{[]property.Change{{2, 1, 1, true, true}, {-3, 0, math.MinInt, false, true}}, []api.Prop{prop(-3, math.MinInt), prop(2, 1), prop(5, 24)}, api.OK},
	} {
		if got, e := property.Apply(l, c.changes); !slices.Equal(got, c.want) || e != c.e {
			t.Errorf("Apply(%v) = %v, %d; want %v, %d", c.changes, got, e, c.want, c.e)
		}
	}
}

func TestP7_7Inverse(t *testing.T) {
	changes := allChanges()
	before := slices.Clone(changes)
	inverse := property.Inverse(changes)
	if len(inverse) != len(changes) || !slices.Equal(changes, before) {
		t.Fatalf("Inverse(%v) = %v", before, inverse)
	}
	for i, c := range changes {
		if got := inverse[len(inverse)-1-i]; got != (property.Change{Key: c.Key, Old: c.New, New: c.Old, Had: c.Has, Has: c.Had}) {
			t.Errorf("the inverse of %v is %v", c, got)
		}
	}
	if got := property.Inverse(nil); len(got) != 0 {
		t.Errorf("Inverse(nil) = %v", got)
	}
}

func TestP7_8EqualAndClone(t *testing.T) {
	all := slices.Concat(slices.Collect(lists()), strange())
	for _, a := range all {
		for _, b := range all {
			want := len(a) == len(b)
			for i := 0; want && i < len(a); i++ {
				want = a[i] == b[i]
			}
			if got := property.Equal(a, b); got != want {
				t.Fatalf("Equal(%v, %v) = %v", a, b, got)
			}
		}
		if got := property.Clone(a); !slices.Equal(got, a) {
			t.Fatalf("Clone(%v) = %v", a, got)
		}
	}
	if !property.Equal(nil, []api.Prop{}) || property.Equal([]api.Prop{prop(2, 1), prop(3, 1)}, []api.Prop{prop(3, 1), prop(2, 1)}) {
		t.Error("Equal of empty lists, or of lists in another order")
	}
}

func TestP7_9Merge(t *testing.T) {
	for a := range lists() {
		if got := property.Merge(a, a); !property.Equal(got, a) {
			t.Fatalf("Merge(%v, %v) = %v", a, a, got)
		}
		for b := range lists() {
			for c := range lists() {
				left, right := property.Merge(property.Merge(a, b), c), property.Merge(a, property.Merge(b, c))
				if !property.Equal(left, right) {
					t.Fatalf("merging %v, %v and %v: %v, %v", a, b, c, left, right)
				}
			}
		}
	}
}

func TestP7_9DiffAndInverse(t *testing.T) {
	check := func(a, b []api.Prop) {
		changes := property.Diff(a, b)
		there, e := property.Apply(a, changes)
		if !property.Equal(there, b) || e != api.OK {
			t.Fatalf("Apply(%v, %v) = %v, %d", a, changes, there, e)
		}
		back, e := property.Apply(b, property.Inverse(changes))
		if !property.Equal(back, a) || e != api.OK {
			t.Fatalf("from %v to %v and back: %v, %d", a, b, back, e)
		}
	}
	for a := range lists() {
		for b := range lists() {
			check(a, b)
		}
	}
	random := rand.New(rand.NewPCG(3, 7))
	some := func() []api.Prop {
		values := make(map[int]int)
		for range random.IntN(60) {
			values[random.IntN(75)] = random.IntN(3) - 1
		}
		return list(values)
	}
	for range 2000 {
		check(some(), some())
	}
}

func TestP7_9SetAndClearCommute(t *testing.T) {
	type step func([]api.Prop) []api.Prop
	set := func(key, value int) step {
		return func(l []api.Prop) []api.Prop { return property.Set(l, key, value) }
	}
	unset := func(key int) step { return func(l []api.Prop) []api.Prop { return property.Clear(l, key) } }
	for l := range lists() {
		for _, one := range []step{set(5, 9), set(3, 1), unset(5)} {
			for _, other := range []step{set(21, 0), set(2, 4), set(99, 0), unset(2), unset(0)} {
				if a, b := one(other(l)), other(one(l)); !property.Equal(a, b) {
					t.Fatalf("in both orders: %v, %v", a, b)
				}
			}
		}
	}
}

func TestP7_9NewMemory(t *testing.T) {
	l := append(make([]api.Prop, 0, 9), prop(2, 1), prop(5, 24)) // there is room behind the list
	other := append(make([]api.Prop, 0, 9), prop(3, 1))
	before, otherBefore := slices.Clone(l[:9]), slices.Clone(other[:9])
	applied, _ := property.Apply(l, []property.Change{{5, 24, 20, true, true}})
	same, _ := property.Apply(l, nil)
	for i, result := range [][]api.Prop{
		property.Clone(l), property.Set(l, 2, 0), property.Set(l, 9, 0), property.Clear(l, 2), property.Clear(l, 9), applied, same,
		property.Merge(l, nil), property.Merge(nil, l), property.Merge(l, other), property.Clone(l[:0]), property.Set(nil, 2, 0),
	} {
		result = append(result, prop(60, 1))
		for j := range result {
			result[j] = prop(-1, -1)
		}
		if !slices.Equal(l[:9], before) || !slices.Equal(other[:9], otherBefore) {
			t.Fatalf("the result %d shares memory with an argument: %v, %v", i, l[:9], other[:9])
		}
	}
	keys := property.Keys(property.Rows)
	keys[0] = 0
	if again := property.Keys(property.Rows); again[0] != 50 {
		t.Error("two results of Keys share memory")
	}
	changes := []property.Change{{5, 24, 20, true, true}}
	property.Inverse(changes)[0].Key = 0
	if changes[0].Key != 5 {
		t.Error("the result of Inverse shares memory with its argument")
	}
}
