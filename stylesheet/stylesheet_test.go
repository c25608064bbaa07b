package stylesheet_test

import (
	"maps"
	"math"
	"math/rand/v2"
	"slices"
	"strconv"
	"strings"
	"testing"

	"obelus/api"
	"obelus/property"
	"obelus/samples"
	"obelus/stylesheet"
)

func prop(key, value int) api.Prop     { return api.Prop{Key: key, Value: value} }
func props(l ...api.Prop) []api.Prop   { return l }
func bold(value int) api.Prop          { return prop(api.KeyBold, value) }
func italic(value int) api.Prop        { return prop(api.KeyItalic, value) }
func size(value int) api.Prop          { return prop(api.KeySize, value) }
func font(value int) api.Prop          { return prop(api.KeyFont, value) }
func align(value int) api.Prop         { return prop(api.KeyAlign, value) }
func sheet(l ...api.Style) []api.Style { return l }
func name(id int) string               { return "style " + strconv.Itoa(id) }
func replaced(l []api.Style, i int, s api.Style) []api.Style {
	l = slices.Clone(l)
	l[i] = s
	return l
}

// para returns a paragraph style, and char a character style.
func para(id, base int, l ...api.Prop) api.Style {
	return api.Style{Id: id, Kind: api.ParaStyle, Name: name(id), Base: base, Props: l}
}
func char(id, base int, l ...api.Prop) api.Style {
	return api.Style{Id: id, Kind: api.CharStyle, Name: name(id), Base: base, Props: l}
}

// example is the sheet of the first example of the chapter, with one more style of each kind.
func example() []api.Style {
	return sheet(
		api.Style{Id: 1, Kind: api.ParaStyle, Name: "Normal", Props: props(size(24))},
		api.Style{Id: 2, Kind: api.ParaStyle, Name: "Heading", Base: 1, Next: 1, Props: props(bold(1), size(32))},
		api.Style{Id: 3, Kind: api.CharStyle, Name: "Code", Props: props(font(2))},
		api.Style{Id: 4, Kind: api.ParaStyle, Name: "Title", Base: 2, Next: 2, Props: props(size(40), align(1))},
		api.Style{Id: 7, Kind: api.CharStyle, Name: "Strong", Base: 3, Props: props(bold(0))},
	)
}

// copied returns a copy of a list that shares nothing with it.
func copied(l []api.Style) []api.Style {
	l = slices.Clone(l)
	for i := range l {
		l[i].Props = slices.Clone(l[i].Props)
	}
	return l
}

// wrong is a list with its error, one for each error that a list can have first.
type wrong struct {
	what string
	l    []api.Style
	want api.Errno
}

// many returns a number of styles, each of which inherits from the one before.
func many(count int) []api.Style {
	var l []api.Style
	for id := 1; id <= count; id++ {
		l = append(l, para(id, id-1))
	}
	return l
}

func wrongLists() []wrong {
	named := func(s string) []api.Style { return sheet(api.Style{Id: 1, Kind: api.ParaStyle, Name: s}) }
	next := func(s api.Style, next int) api.Style { s.Next = next; return s }
	kind := func(s api.Style, kind int) api.Style { s.Kind = kind; return s }
	title := func(s api.Style, title string) api.Style { s.Name = title; return s }
	return []wrong{
		{"129 styles", many(129), api.ErrLimit},
		{"129 wrong styles", make([]api.Style, 129), api.ErrLimit},
		{"the id 0", sheet(para(0, 0)), api.ErrId},
		{"a negative id", sheet(para(-1, 0)), api.ErrId},
		{"an id over the limit", sheet(para(api.MaxId+1, 0)), api.ErrId},
		{"the same wrong id twice", sheet(para(1, 0), para(0, 0), para(0, 0)), api.ErrId},
		{"the least id", sheet(para(1, 0), para(math.MinInt, 0)), api.ErrId},
		{"two equal ids", sheet(para(1, 0), para(1, 0)), api.ErrDuplicate},
		{"two equal ids, a wrong kind", sheet(para(1, 0), kind(para(1, 0), 3)), api.ErrDuplicate},
		{"ids that decrease", sheet(para(2, 0), para(1, 0)), api.ErrOrder},
		{"an id like one further before", sheet(para(1, 0), para(2, 0), para(1, 0)), api.ErrOrder},
		{"ids that decrease, a wrong kind", sheet(para(2, 0), kind(para(1, 0), 3)), api.ErrOrder},
		{"the kind 0", sheet(kind(para(1, 0), 0)), api.ErrKind},
		{"the kind 3", sheet(kind(para(1, 0), 3)), api.ErrKind},
		{"a negative kind", sheet(kind(para(1, 0), -1)), api.ErrKind},
		{"a wrong kind and name", sheet(api.Style{Id: 1}), api.ErrKind},
		{"no name", named(""), api.ErrName},
		{"a long name", named(strings.Repeat("a", 41)), api.ErrName},
		{"a wrong name twice", sheet(title(para(1, 0), ""), title(para(2, 0), "")), api.ErrName},
		{"a wrong name, a wrong key", sheet(title(para(1, 0, prop(api.KeyParaStyle, 1)), " ")), api.ErrName},
		{"equal names of paragraph styles", sheet(para(1, 0), para(2, 0), title(para(3, 0), name(1))), api.ErrDuplicate},
		{"equal names of character styles", sheet(char(1, 0), title(char(3, 0), name(1))), api.ErrDuplicate},
		{"equal names, a wrong key", sheet(char(1, 0), title(char(3, 0, prop(api.KeyCharStyle, 1)), name(1))), api.ErrDuplicate},
		{"a paragraph style with a paragraph style", sheet(para(1, 0, prop(api.KeyParaStyle, 0))), api.ErrKey},
		{"a paragraph style with a character style", sheet(para(1, 0, prop(api.KeyCharStyle, 0))), api.ErrKey},
		{"a character style with a character style", sheet(char(1, 0, prop(api.KeyCharStyle, 0))), api.ErrKey},
		{"a character style with a paragraph style", sheet(char(1, 0, prop(api.KeyParaStyle, 0))), api.ErrKey},
		{"a style behind a value that is wrong", sheet(para(1, 0, bold(9), prop(api.KeyParaStyle, 0))), api.ErrKey},
		{"a style behind keys that decrease", sheet(para(1, 0, italic(1), bold(1), prop(api.KeyCharStyle, 1))), api.ErrKey},
		{"a property of sections", sheet(para(1, 0, prop(api.KeyTop, 0))), api.ErrKey},
		{"an unknown key", sheet(para(1, 0, prop(11, 0))), api.ErrKey},
		{"a character style with an alignment", sheet(char(1, 0, align(1))), api.ErrKey},
		{"two equal keys", sheet(para(1, 0, bold(1), bold(0))), api.ErrDuplicate},
		{"keys that decrease", sheet(char(1, 0, italic(1), bold(0))), api.ErrOrder},
		{"a wrong value of a paragraph style", sheet(para(1, 0, align(4))), api.ErrValue},
		{"a wrong value of a character style", sheet(char(1, 0, size(1))), api.ErrValue},
		{"a wrong value before a wrong id", sheet(char(1, 0, size(1)), char(0, 0)), api.ErrValue},
		{"a base that is not there before a wrong value", sheet(char(1, 5), char(2, 0, size(1))), api.ErrValue},
		{"a base that is not there", sheet(para(1, 2)), api.ErrStyle},
		{"a negative base", sheet(para(1, -1)), api.ErrStyle},
		{"a base of the other kind", sheet(para(1, 2), char(2, 0)), api.ErrStyle},
		{"a base of the other kind, the other way", sheet(para(1, 0), char(2, 1)), api.ErrStyle},
		{"a next style that is not there", sheet(next(para(1, 0), 2)), api.ErrStyle},
		{"a negative next style", sheet(next(para(1, 0), -1)), api.ErrStyle},
		{"a next style of the other kind", sheet(next(para(1, 0), 2), char(2, 0)), api.ErrStyle},
		{"a next style of a character style", sheet(next(char(1, 0), 2), char(2, 0)), api.ErrStyle},
		{"a next paragraph style of a character style", sheet(para(1, 0), next(char(2, 0), 1)), api.ErrStyle},
		{"a cycle before a base that is not there", sheet(para(1, 1), para(2, 3)), api.ErrStyle},
		{"a cycle before a next style that is not there", sheet(para(1, 1), next(para(2, 0), 3)), api.ErrStyle},
		{"a style with itself as its base", sheet(para(1, 1)), api.ErrCycle},
		{"a cycle of two", sheet(para(1, 2), para(2, 1)), api.ErrCycle},
		{"a cycle of three", sheet(char(1, 0), para(2, 5), para(4, 2), para(5, 4)), api.ErrCycle},
		{"a chain into a cycle", sheet(para(1, 2), para(2, 3), para(3, 2)), api.ErrCycle},
		{"a cycle behind chains that end", sheet(para(1, 0), para(2, 1), para(3, 1), char(4, 5), char(5, 4)), api.ErrCycle},
		{"a cycle of 128", replaced(many(128), 0, para(1, 128)), api.ErrCycle},
	}
}

func rightLists() [][]api.Style {
	last := para(api.MaxId, 1, size(2))
	last.Next = api.MaxId
	same := char(9, 0)
	same.Name = name(1)
	next := para(1, 0)
	next.Next = 9
	return [][]api.Style{
		nil, {}, example(), many(128), {para(1, 0), last}, {para(1, 0), same}, {next, para(9, 0)},
		{para(1, 3, align(3)), para(2, 3), para(3, 4), para(4, 0, bold(1), align(0))}, // bases behind the styles
		{char(1, 2), char(2, 0, bold(1)), para(3, 0)},
		{para(1, 0, bold(1), prop(api.KeyHyphenate, 1)), char(2, 0, bold(1), prop(api.KeyHidden, 1))},
	}
}

// errorsOf returns the errors of all functions that return one, for a list with an error.
func errorsOf(t *testing.T, l []api.Style) []api.Errno {
	t.Helper()
	bad := props(prop(99, 0)) // wrong for all elements
	chain, e1 := stylesheet.Chain(l, -5)
	follow, e2 := stylesheet.Follow(l, -5)
	effective, e3 := stylesheet.Effective(l, -5)
	paraProps, e4 := stylesheet.Para(l, bad)
	textProps, e5 := stylesheet.Text(l, bad, bad)
	removed, e6 := stylesheet.Remove(l, -5)
	rebased, e7 := stylesheet.Rebase(l, -5, -6)
	if len(chain)+follow+len(effective)+len(paraProps)+len(textProps)+len(removed)+len(rebased) != 0 {
		t.Error("a result beside an error")
	}
	return []api.Errno{stylesheet.Check(l), e1, e2, e3, e4, e5, e6, e7}
}

func TestP1AllArguments(t *testing.T) {
	strange := [][]api.Style{nil, make([]api.Style, 3), many(2000), {para(-1, -1), para(0, 0), para(math.MaxInt, math.MinInt)}}
	for _, w := range wrongLists() {
		strange = append(strange, w.l)
	}
	for _, l := range append(strange, rightLists()...) {
		before := copied(l)
		for _, n := range samples.Numbers() {
			stylesheet.Find(l, n)
			stylesheet.FindName(l, n, "\xFF")
			stylesheet.Chain(l, n)
			stylesheet.Children(l, n)
			stylesheet.Follow(l, n)
			stylesheet.Effective(l, n)
			stylesheet.Para(l, props(prop(n, n), prop(0, 0)))
			stylesheet.Text(l, props(prop(api.KeyParaStyle, n)), props(prop(api.KeyCharStyle, n)))
			stylesheet.Remove(l, n)
			stylesheet.Rebase(l, n, n)
		}
		if !stylesheet.Equal(l, before) {
			t.Errorf("an argument was changed from %v to %v", before, l)
		}
	}
}

func TestP8_1IsName(t *testing.T) {
	for s, want := range map[string]bool{
		"a": true, "Heading 1": true, "a  b": true, "~!": true, strings.Repeat("x", 40): true, "x" + strings.Repeat(" ", 38) + "y": true, "1": true, "%\"": true,
		"": false, " ": false, " a": false, "a ": false, "a b ": false, strings.Repeat("x", 41): false, "a\tb": false, "a\nb": false, "\u00E9": false, "a\u00A0b": false, "a\xFFb": false, "\u00E4": false,
	} {
		if got := stylesheet.IsName(s); got != want {
			t.Errorf("IsName(%q) = %v", s, got)
		}
	}
	for b := range 256 {
		inside := b >= 32 && b <= 126
		c := string([]byte{byte(b)})
		for s, want := range map[string]bool{c: inside && b != 32, c + "x": inside && b != 32, "x" + c: inside && b != 32, "x" + c + "x": inside} {
			if got := stylesheet.IsName(s); got != want {
				t.Errorf("IsName(%q) = %v", s, got)
			}
		}
	}
}

func TestP8_1Check(t *testing.T) {
	for _, l := range rightLists() {
		if e := stylesheet.Check(l); e != api.OK {
			t.Errorf("Check(%v) = %d", l, e)
		}
	}
	for _, w := range wrongLists() {
		for i, e := range errorsOf(t, w.l) {
			if e != w.want {
				t.Errorf("%s: the function %d: %d; want %d", w.what, i, e, w.want)
			}
		}
	}
}

func TestP8_2Find(t *testing.T) {
	strange := sheet(para(5, 0), char(5, 0), para(-3, 0), para(0, 0), char(2, 0), para(5, 0))
	for _, l := range append(rightLists(), strange) {
		for id := -5; id < 140; id++ {
			at, found := 0, false
			for i, style := range slices.Backward(l) {
				if style.Id == id {
					at, found = i, true
				}
			}
			if got, ok := stylesheet.Find(l, id); got != at || ok != found {
				t.Errorf("Find(%v, %d) = %d, %v", l, id, got, ok)
			}
		}
	}
	for _, c := range []struct {
		kind  int
		name  string
		at    int
		found bool
	}{
		{api.ParaStyle, "Normal", 0, true}, {api.ParaStyle, "Title", 3, true}, {api.CharStyle, "Code", 2, true}, {api.CharStyle, "Strong", 4, true},
		{api.CharStyle, "Normal", 0, false}, {api.ParaStyle, "Code", 0, false}, {api.ParaStyle, "normal", 0, false}, {api.ParaStyle, "", 0, false}, {0, "Normal", 0, false}, {api.ParaStyle, "Norma", 0, false},
	} {
		if at, found := stylesheet.FindName(example(), c.kind, c.name); at != c.at || found != c.found {
			t.Errorf("FindName(%d, %q) = %d, %v", c.kind, c.name, at, found)
		}
	}
	same := sheet(api.Style{Name: "\xFF", Kind: 8}, api.Style{Name: "a", Kind: 9}, api.Style{Name: "a", Kind: 8}, api.Style{Name: "a", Kind: 8})
	if at, found := stylesheet.FindName(same, 8, "a"); at != 2 || !found {
		t.Errorf("FindName of the first one = %d, %v", at, found)
	}
	if at, found := stylesheet.FindName(same, 8, "\xFF"); at != 0 || !found {
		t.Errorf("FindName in a list that is not valid = %d, %v", at, found)
	}
}

func TestP8_3Chain(t *testing.T) {
	for id, want := range map[int][]int{1: {1}, 2: {2, 1}, 3: {3}, 4: {4, 2, 1}, 7: {7, 3}} {
		if got, e := stylesheet.Chain(example(), id); !slices.Equal(got, want) || e != api.OK {
			t.Errorf("Chain(%d) = %d, %d", id, got, e)
		}
	}
	for _, id := range []int{0, 5, 6, 8, -1, math.MaxInt, math.MinInt} {
		if got, e := stylesheet.Chain(example(), id); len(got) != 0 || e != api.ErrNotFound {
			t.Errorf("Chain(%d) = %d, %d", id, got, e)
		}
	}
	long, e := stylesheet.Chain(many(128), 128)
	if len(long) != 128 || long[0] != 128 || long[127] != 1 || e != api.OK {
		t.Errorf("a chain of 128: %d, %d", long, e)
	}
	front := sheet(para(1, 3), para(2, 0), para(3, 2))
	if got, e := stylesheet.Chain(front, 1); !slices.Equal(got, []int{1, 3, 2}) || e != api.OK {
		t.Errorf("a chain with bases behind the styles: %d, %d", got, e)
	}
}

func TestP8_3Children(t *testing.T) {
	l := sheet(para(1, 0), para(4, 1), para(5, 4), para(3, 1), char(9, 1), para(2, 2), char(8, -7), char(3, 0))
	for id, want := range map[int][]int{0: {1, 3}, 1: {4, 3, 9}, 2: {2}, 4: {5}, -7: {8}, 5: nil, 77: nil, math.MinInt: nil} {
		if got := stylesheet.Children(l, id); !slices.Equal(got, want) {
			t.Errorf("Children(%d) = %d; want %d", id, got, want)
		}
	}
	if got := stylesheet.Children(nil, 0); len(got) != 0 {
		t.Errorf("Children(nil, 0) = %d", got)
	}
}

func TestP8_4Follow(t *testing.T) {
	for _, c := range []struct {
		id, want int
		e        api.Errno
	}{
		{1, 1, api.OK}, {2, 1, api.OK}, {4, 2, api.OK}, {3, 0, api.ErrKind}, {7, 0, api.ErrKind}, {0, 0, api.ErrNotFound}, {5, 0, api.ErrNotFound}, {-1, 0, api.ErrNotFound},
	} {
		if got, e := stylesheet.Follow(example(), c.id); got != c.want || e != c.e {
			t.Errorf("Follow(%d) = %d, %d", c.id, got, e)
		}
	}
}

// effectiveOf finds the effective properties of a style from its root on.
func effectiveOf(l []api.Style, id int) map[int]int {
	for _, style := range l {
		if style.Id == id && id != 0 {
			values := effectiveOf(l, style.Base)
			for _, p := range style.Props {
				values[p.Key] = p.Value
			}
			return values
		}
	}
	return make(map[int]int)
}

// list returns properties in increasing order of keys.
func list(values map[int]int) []api.Prop {
	var l []api.Prop
	for _, key := range slices.Sorted(maps.Keys(values)) {
		l = append(l, prop(key, values[key]))
	}
	return l
}

func TestP8_5Effective(t *testing.T) {
	for id, want := range map[int][]api.Prop{
		1: {size(24)}, 2: {bold(1), size(32)}, 3: {font(2)}, 4: {bold(1), size(40), align(1)}, 7: {bold(0), font(2)},
	} {
		if got, e := stylesheet.Effective(example(), id); !slices.Equal(got, want) || e != api.OK {
			t.Errorf("Effective(%d) = %v, %d; want %v", id, got, e, want)
		}
	}
	for _, id := range []int{0, 5, -1, 8} {
		if got, e := stylesheet.Effective(example(), id); len(got) != 0 || e != api.ErrNotFound {
			t.Errorf("Effective(%d) = %v, %d", id, got, e)
		}
	}
	random := rand.New(rand.NewPCG(8, 5))
	for range 300 {
		l := randomSheet(random)
		for _, style := range l {
			want := list(effectiveOf(l, style.Id))
			if got, e := stylesheet.Effective(l, style.Id); !slices.Equal(got, want) || e != api.OK {
				t.Fatalf("Effective(%v, %d) = %v, %d; want %v", l, style.Id, got, e, want)
			}
		}
	}
}

// randomProps returns some properties of groups, with values from the least on.
func randomProps(random *rand.Rand, groups ...int) []api.Prop {
	values := make(map[int]int)
	for _, group := range groups {
		for _, key := range property.Keys(group) {
			if key == api.KeyParaStyle || key == api.KeyCharStyle || random.IntN(4) > 0 {
				continue
			}
			low, high, _ := property.Bounds(key)
			preset, _ := property.Default(key)
			values[key] = []int{low, min(low+1, high), preset, high}[random.IntN(4)]
		}
	}
	return list(values)
}

// randomSheet returns a valid list of styles; bases stand before or behind the styles.
func randomSheet(random *rand.Rand) []api.Style {
	var l []api.Style
	id := 0
	for range 1 + random.IntN(9) {
		id += 1 + random.IntN(3)
		style := para(id, 0, randomProps(random, property.Characters, property.Paragraphs)...)
		if random.IntN(3) == 0 {
			style = char(id, 0, randomProps(random, property.Characters)...)
		}
		l = append(l, style)
	}
	order := random.Perm(len(l)) // a style inherits from one that stands before it here
	for i, at := range order {
		style := &l[at]
		if base := l[order[random.IntN(i+1)]]; base.Kind == style.Kind && base.Id != style.Id {
			style.Base = base.Id
		}
		if next := l[random.IntN(len(l))]; style.Kind == api.ParaStyle && next.Kind == api.ParaStyle {
			style.Next = next.Id
		}
	}
	return l
}

// ofGroup returns the properties of a group.
func ofGroup(values map[int]int, group int) []api.Prop {
	picked := make(map[int]int)
	for key, value := range values {
		if g, _ := property.Group(key); g == group {
			picked[key] = value
		}
	}
	return list(picked)
}

func TestP8_6Para(t *testing.T) {
	style := func(id int) api.Prop { return prop(api.KeyParaStyle, id) }
	l := append(example(), para(9, 4, bold(1), prop(api.KeyLeft, 100), prop(api.KeyOutline, 2)))
	for _, c := range []struct {
		own, want []api.Prop
		e         api.Errno
	}{
		{nil, nil, api.OK}, {props(bold(1)), nil, api.OK}, {props(align(2)), props(align(2)), api.OK}, {props(style(0)), props(style(0)), api.OK}, {props(style(0), align(0)), props(style(0), align(0)), api.OK},
		{props(style(1)), props(style(1)), api.OK}, {props(style(4)), props(style(4), align(1)), api.OK}, {props(style(4), align(0)), props(style(4), align(0)), api.OK},
		{props(bold(0), size(9), style(9), prop(api.KeyLeft, -5), prop(api.KeyWidow, 0)), props(style(9), align(1), prop(api.KeyLeft, -5), prop(api.KeyWidow, 0), prop(api.KeyOutline, 2)), api.OK},
		{props(prop(api.KeyCharStyle, 3), style(1)), props(style(1)), api.OK}, {props(prop(api.KeyCharStyle, 55), style(1)), props(style(1)), api.OK},
		{props(style(3)), nil, api.ErrStyle}, {props(style(7)), nil, api.ErrStyle}, {props(style(5)), nil, api.ErrStyle}, {props(style(api.MaxId)), nil, api.ErrStyle},
		{props(style(-1)), nil, api.ErrValue}, {props(style(5), align(4)), nil, api.ErrValue}, {props(align(1), style(5)), nil, api.ErrOrder}, {props(style(1), style(5)), nil, api.ErrDuplicate}, {props(style(5), prop(api.KeyTop, 0)), nil, api.ErrKey}, {props(prop(11, 0), style(5)), nil, api.ErrKey},
	} {
		if got, e := stylesheet.Para(l, c.own); !slices.Equal(got, c.want) || e != c.e {
			t.Errorf("Para(%v) = %v, %d; want %v, %d", c.own, got, e, c.want, c.e)
		}
	}
}

func TestP8_7Text(t *testing.T) {
	style := func(id int) api.Prop { return prop(api.KeyParaStyle, id) }
	inner := func(id int) api.Prop { return prop(api.KeyCharStyle, id) }
	for _, c := range []struct {
		para, own, want []api.Prop
		e               api.Errno
	}{
		{props(style(2)), props(inner(3), italic(1)), props(inner(3), bold(1), italic(1), size(32), font(2)), api.OK},
		{nil, nil, nil, api.OK}, {nil, props(italic(0)), props(italic(0)), api.OK}, {props(bold(1), align(1)), nil, nil, api.OK}, {props(bold(0), style(2)), nil, props(bold(1), size(32)), api.OK},
		{props(style(4), align(0)), nil, props(bold(1), size(40)), api.OK}, {props(style(4)), props(size(10)), props(bold(1), size(10)), api.OK},
		{props(style(2)), props(inner(7)), props(inner(7), bold(0), size(32), font(2)), api.OK}, {props(style(2)), props(inner(7), bold(1), font(0)), props(inner(7), bold(1), size(32), font(0)), api.OK},
		{props(style(0)), props(inner(0)), props(inner(0)), api.OK}, {props(inner(7), style(1)), nil, props(size(24)), api.OK}, {props(inner(55)), nil, nil, api.OK},
		{props(style(3)), nil, nil, api.ErrStyle}, {props(style(5)), nil, nil, api.ErrStyle}, {nil, props(inner(1)), nil, api.ErrStyle}, {nil, props(inner(5)), nil, api.ErrStyle}, {props(style(1)), props(inner(2)), nil, api.ErrStyle},
		{props(style(5)), props(align(1)), nil, api.ErrKey}, {props(style(5)), props(bold(2)), nil, api.ErrValue}, {props(align(4)), props(align(1)), nil, api.ErrValue}, {props(style(5), prop(api.KeyTop, 1)), props(bold(2)), nil, api.ErrKey},
		{props(style(1)), props(bold(1), bold(1)), nil, api.ErrDuplicate}, {props(align(1), style(1)), props(bold(2)), nil, api.ErrOrder}, {nil, props(style(1)), nil, api.ErrKey},
	} {
		if got, e := stylesheet.Text(example(), c.para, c.own); !slices.Equal(got, c.want) || e != c.e {
			t.Errorf("Text(%v, %v) = %v, %d; want %v, %d", c.para, c.own, got, e, c.want, c.e)
		}
	}
}

// TestP8_6And8_7Random compares the effective properties of paragraphs and runs with those that are put together in maps.
func TestP8_6And8_7Random(t *testing.T) {
	random := rand.New(rand.NewPCG(8, 7))
	for range 500 {
		l := randomSheet(random)
		outer, inner := l[random.IntN(len(l))], l[random.IntN(len(l))]
		if outer.Kind != api.ParaStyle || inner.Kind != api.CharStyle {
			continue
		}
		own := property.Set(randomProps(random, property.Characters, property.Paragraphs), api.KeyParaStyle, outer.Id)
		want := effectiveOf(l, outer.Id)
		for _, p := range own {
			want[p.Key] = p.Value
		}
		if got, e := stylesheet.Para(l, own); !slices.Equal(got, ofGroup(want, property.Paragraphs)) || e != api.OK {
			t.Fatalf("Para(%v, %v) = %v, %d", l, own, got, e)
		}
		run := property.Set(randomProps(random, property.Characters), api.KeyCharStyle, inner.Id)
		want = effectiveOf(l, outer.Id)
		maps.Copy(want, effectiveOf(l, inner.Id))
		for _, p := range run {
			want[p.Key] = p.Value
		}
		if got, e := stylesheet.Text(l, own, run); !slices.Equal(got, ofGroup(want, property.Characters)) || e != api.OK {
			t.Fatalf("Text(%v, %v, %v) = %v, %d", l, own, run, got, e)
		}
	}
}

func TestP8_8Remove(t *testing.T) {
	l := example()
	title := api.Style{Id: 4, Kind: api.ParaStyle, Name: "Title", Base: 1, Props: props(bold(1), size(40), align(1))}
	if got, e := stylesheet.Remove(l, 2); e != api.OK || !stylesheet.Equal(got, sheet(l[0], l[2], title, l[4])) {
		t.Errorf("without the style 2: %v, %d", got, e)
	}
	heading := l[1]
	heading.Base, heading.Next = 0, 0
	if got, e := stylesheet.Remove(l, 1); e != api.OK || !stylesheet.Equal(got, sheet(heading, l[2], l[3], l[4])) {
		t.Errorf("without the style 1: %v, %d", got, e)
	}
	strong := l[4]
	strong.Base, strong.Props = 0, props(bold(0), font(2))
	if got, e := stylesheet.Remove(l, 3); e != api.OK || !stylesheet.Equal(got, sheet(l[0], l[1], l[3], strong)) {
		t.Errorf("without the style 3: %v, %d", got, e)
	}
	if got, e := stylesheet.Remove(l, 7); e != api.OK || !stylesheet.Equal(got, l[:4]) {
		t.Errorf("without the style 7: %v, %d", got, e)
	}
	if got, e := stylesheet.Remove(l[2:3], 3); e != api.OK || len(got) != 0 {
		t.Errorf("without the only style: %v, %d", got, e)
	}
	self := sheet(para(1, 0), para(2, 0))
	self[0].Next, self[1].Next = 1, 2
	if got, e := stylesheet.Remove(self, 1); e != api.OK || !stylesheet.Equal(got, self[1:]) {
		t.Errorf("without a style that follows itself: %v, %d", got, e)
	}
	for _, id := range []int{0, 5, -1, 8, math.MaxInt} {
		if got, e := stylesheet.Remove(l, id); len(got) != 0 || e != api.ErrNotFound {
			t.Errorf("Remove(%d) = %v, %d", id, got, e)
		}
	}
}

func TestP8_9Rebase(t *testing.T) {
	underline := prop(api.KeyUnderline, 1)
	l := example()
	l[0].Props = props(italic(1), size(24))
	l = slices.Insert(l, 4, para(5, 0, underline), para(6, 1, size(24), align(0)))
	for _, c := range []struct {
		id, base int
		want     []api.Prop
	}{
		{2, 0, props(bold(1), italic(1), size(32))}, {5, 1, props(italic(0), underline, size(22))}, {5, 4, props(bold(0), italic(0), underline, size(22), align(0))}, {5, 0, props(underline)}, {6, 1, props(align(0))}, {6, 0, props(italic(1), size(24), align(0))}, {6, 5, props(italic(1), prop(api.KeyUnderline, 0), size(24), align(0))},
		{4, 1, props(bold(1), size(40), align(1))}, {4, 6, props(bold(1), size(40), align(1))}, {7, 0, props(bold(0), font(2))}, {7, 3, props(bold(0))}, {3, 0, props(font(2))}, {1, 5, props(italic(1), prop(api.KeyUnderline, 0), size(24))},
	} {
		got, e := stylesheet.Rebase(l, c.id, c.base)
		at, _ := stylesheet.Find(l, c.id)
		want := l[at]
		want.Base, want.Props = c.base, c.want
		if e != api.OK || !stylesheet.Equal(got, replaced(l, at, want)) {
			t.Errorf("Rebase(%d, %d) = %v, %d; want %v", c.id, c.base, got, e, want)
		}
	}
	for _, c := range []struct {
		id, base int
		e        api.Errno
	}{
		{9, 9, api.ErrNotFound}, {0, 1, api.ErrNotFound}, {-1, 0, api.ErrNotFound}, {99, 3, api.ErrNotFound},
		{1, 9, api.ErrStyle}, {1, -1, api.ErrStyle}, {1, 3, api.ErrStyle}, {7, 1, api.ErrStyle}, {2, math.MaxInt, api.ErrStyle},
		{1, 1, api.ErrCycle}, {1, 2, api.ErrCycle}, {1, 4, api.ErrCycle}, {2, 4, api.ErrCycle}, {3, 7, api.ErrCycle}, {1, 6, api.ErrCycle},
	} {
		if got, e := stylesheet.Rebase(l, c.id, c.base); len(got) != 0 || e != c.e {
			t.Errorf("Rebase(%d, %d) = %v, %d; want %d", c.id, c.base, got, e, c.e)
		}
	}
}

// TestP8_9Defaults has bases with default values: keys that a style does not have and whose value in the base is the default are not set.
func TestP8_9Defaults(t *testing.T) {
	widow := func(value int) api.Prop { return prop(api.KeyWidow, value) }
	l := sheet(para(1, 0, bold(0), size(22), align(2), widow(1)), para(2, 0, italic(0)), para(3, 0, bold(0), size(22), widow(0)))
	for _, c := range []struct {
		id   int
		want []api.Prop
	}{{2, props(italic(0), align(0))}, {3, props(align(0), widow(0))}} {
		got, e := stylesheet.Rebase(l, c.id, 1)
		if e != api.OK || !slices.Equal(got[c.id-1].Props, c.want) {
			t.Errorf("Rebase(%d, 1) = %v, %d; want %v", c.id, got, e, c.want)
		}
	}
}

func TestP8_10Equal(t *testing.T) {
	l := example()
	if !stylesheet.Equal(l, example()) || !stylesheet.Equal(nil, []api.Style{}) || stylesheet.Equal(l, l[1:]) || stylesheet.Equal(l, l[:4]) || stylesheet.Equal(l, nil) {
		t.Error("equal lists, or lists of different lengths")
	}
	for i := range l {
		for field, change := range []func(*api.Style){
			func(s *api.Style) { s.Id++ }, func(s *api.Style) { s.Kind++ }, func(s *api.Style) { s.Name += "x" }, func(s *api.Style) { s.Base++ }, func(s *api.Style) { s.Next++ },
			func(s *api.Style) { s.Props = nil }, func(s *api.Style) { s.Props[0].Key++ }, func(s *api.Style) { s.Props[0].Value++ }, func(s *api.Style) { s.Props = append(s.Props, bold(1)) },
		} {
			other := example()
			change(&other[i])
			if stylesheet.Equal(l, other) || stylesheet.Equal(other, l) {
				t.Errorf("the style %d with another field %d is equal", i, field)
			}
		}
	}
	swapped := example()
	swapped[0], swapped[1] = swapped[1], swapped[0]
	if stylesheet.Equal(l, swapped) {
		t.Error("lists in another order are equal")
	}
	if !stylesheet.Equal(sheet(api.Style{Props: props()}), sheet(api.Style{})) {
		t.Error("empty properties")
	}
}

// keys returns all keys that styles have.
func keys() []int {
	return append(property.Keys(property.Characters), property.Keys(property.Paragraphs)...)
}

func TestP8_11RemoveKeepsEffective(t *testing.T) {
	random := rand.New(rand.NewPCG(8, 11))
	for range 300 {
		l := randomSheet(random)
		id := l[random.IntN(len(l))].Id
		rest, e := stylesheet.Remove(l, id)
		if e != api.OK || stylesheet.Check(rest) != api.OK || len(rest) != len(l)-1 {
			t.Fatalf("Remove(%v, %d) = %v, %d", l, id, rest, e)
		}
		for _, style := range rest {
			before, _ := stylesheet.Effective(l, style.Id)
			after, e := stylesheet.Effective(rest, style.Id)
			if !slices.Equal(before, after) || e != api.OK {
				t.Fatalf("behind Remove(%v, %d), the style %d has %v instead of %v", l, id, style.Id, after, before)
			}
		}
	}
}

func TestP8_11RebaseKeepsValues(t *testing.T) {
	random := rand.New(rand.NewPCG(11, 8))
	done := 0
	for range 1000 {
		l := randomSheet(random)
		id, base := l[random.IntN(len(l))].Id, l[random.IntN(len(l))].Id*random.IntN(2)
		rebased, e := stylesheet.Rebase(l, id, base)
		if e != api.OK {
			continue
		}
		done++
		if e := stylesheet.Check(rebased); e != api.OK {
			t.Fatalf("Check of Rebase(%v, %d, %d): %d", l, id, base, e)
		}
		for _, style := range l {
			before, _ := stylesheet.Effective(l, style.Id)
			after, _ := stylesheet.Effective(rebased, style.Id)
			for _, key := range keys() {
				_, had := property.Get(before, key)
				_, has := property.Get(after, key)
				if property.Value(before, key) != property.Value(after, key) || had && !has {
					t.Fatalf("behind Rebase(%v, %d, %d), the style %d has %v instead of %v", l, id, base, style.Id, after, before)
				}
			}
		}
	}
	if done < 300 {
		t.Errorf("only %d lists were tried", done)
	}
}

func TestP8_11OwnWins(t *testing.T) {
	random := rand.New(rand.NewPCG(1, 11))
	for range 300 {
		l := randomSheet(random)
		id := l[random.IntN(len(l))].Id
		own := property.Set(randomProps(random, property.Paragraphs), api.KeyParaStyle, id)
		run := property.Set(randomProps(random, property.Characters), api.KeyCharStyle, id)
		if got, e := stylesheet.Para(l, own); e == api.OK && !property.Equal(property.Merge(got, own), got) {
			t.Fatalf("Para(%v, %v) = %v", l, own, got)
		}
		if got, e := stylesheet.Text(l, nil, run); e == api.OK && !property.Equal(property.Merge(got, run), got) {
			t.Fatalf("Text(%v, nil, %v) = %v", l, run, got)
		}
	}
}

// spoil overwrites a list of properties, and the memory behind it.
func spoil(l []api.Prop) {
	l = l[:cap(l)]
	for i := range l {
		l[i] = prop(-1, -1)
	}
}

func TestP8_11NewMemory(t *testing.T) {
	l := example()
	l[0].Props = append(make([]api.Prop, 0, 8), l[0].Props...) // there is room behind the list
	own, run := append(make([]api.Prop, 0, 8), prop(api.KeyParaStyle, 4)), append(make([]api.Prop, 0, 8), prop(api.KeyCharStyle, 7))
	var results [][]api.Prop
	for id := range 8 {
		if effective, e := stylesheet.Effective(l, id); e == api.OK {
			results = append(results, effective)
		}
	}
	paraProps, _ := stylesheet.Para(l, own)
	textProps, _ := stylesheet.Text(l, own, run)
	results = append(results, paraProps, textProps)
	for id := range 8 {
		removed, _ := stylesheet.Remove(l, id)
		rebased, _ := stylesheet.Rebase(l, id, 0)
		same, _ := stylesheet.Rebase(l, 4, id)
		for _, list := range [][]api.Style{removed, rebased, same} {
			for i := range list {
				results = append(results, list[i].Props)
				list[i] = api.Style{}
			}
		}
	}
	for _, result := range results {
		spoil(result)
	}
	if !stylesheet.Equal(l, example()) || !slices.Equal(own, props(prop(api.KeyParaStyle, 4))) || !slices.Equal(run, props(prop(api.KeyCharStyle, 7))) {
		t.Errorf("results share memory with arguments: %v, %v, %v", l, own, run)
	}
	if rest := l[0].Props[:8]; rest[len(rest)-1] != prop(0, 0) {
		t.Errorf("memory behind an argument was written to: %v", rest)
	}
}
