package transform_test

import (
	"math/rand/v2"
	"slices"
	"strings"
	"testing"

	"obelus/api"
	"obelus/document"
	"obelus/samples"
	"obelus/splice"
	"obelus/transform"
)

// runs returns the document behind several lists of splices, if they can be run one after another.
func runs(d api.Document, lists ...[]api.Splice) (api.Document, bool) {
	out, _, e := splice.Run(d, slices.Concat(lists...), samples.Revs())
	return out, e == api.OK
}

// possible returns the small splices that can be run on the document of squares.
func possible(first int) []api.Splice {
	return slices.DeleteFunc(small(first), func(s api.Splice) bool {
		_, can := runs(squares(), []api.Splice{s})
		return !can
	})
}

// withoutPlaces returns splices of which At and Sub are zero.
func withoutPlaces(l []api.Splice) []api.Splice {
	l = slices.Clone(l)
	for i := range l {
		l[i].At, l[i].Sub = 0, 0
	}
	return l
}

// TestP20_6Small runs all pairs of small splices in both orders.
func TestP20_6Small(t *testing.T) {
	met := make(map[[2]int]int)
	others := possible(200)
	for _, s := range possible(100) {
		for _, u := range others {
			a, b := []api.Splice{s}, []api.Splice{u}
			aOver, bOver, e := transform.Lists(a, b)
			if e != api.OK {
				continue
			}
			there, can := runs(squares(), a, bOver)
			other, too := runs(squares(), b, aOver)
			if can && too && !document.Equal(there, other) {
				t.Fatalf("%+v and %+v lead to %+v and %+v", s, u, there, other)
			}
			if can != too || !can && !empties(s, u) {
				t.Fatalf("%+v and %+v: %v, %v", s, u, can, too)
			}
			if can {
				met[[2]int{s.Kind, u.Kind}]++
			}
		}
	}
	for s := api.SpliceItems; s <= api.SpliceSet; s++ {
		for u := api.SpliceItems; u <= api.SpliceSet; u++ {
			if (met[[2]int{s, u}] == 0) != (s == u && s >= api.SpliceEnd) {
				t.Errorf("%d pairs of the kinds %d and %d", met[[2]int{s, u}], s, u)
			}
		}
	}
}

// empties reports whether two splices together can remove all rows, or all cells of a row.
func empties(s, u api.Splice) bool {
	return len(s.Old.Rows)+len(u.Old.Rows) == 4 || len(s.Old.Cells)+len(u.Old.Cells) == 2
}

// TestP20_6Many runs lists of splices of the same document in both orders.
func TestP20_6Many(t *testing.T) {
	met, long, stopped := 0, 0, 0
	lists(2500, 7, func(_ *rand.Rand, d api.Document, a, b []api.Splice) {
		aOver, bOver, e := transform.Lists(a, b)
		if e != api.OK {
			return
		}
		if show(withoutPlaces(aOver)) != show(withoutPlaces(a)) || show(withoutPlaces(bOver)) != show(withoutPlaces(b)) {
			t.Fatalf("Lists(%+v, %+v) = %+v, %+v", a, b, aOver, bOver)
		}
		there, can := runs(d, a, bOver)
		other, too := runs(d, b, aOver)
		if !can || !too {
			stopped++
			return
		}
		if !document.Equal(there, other) {
			t.Fatalf("%+v and %+v of %+v lead to %+v and %+v", a, b, d, there, other)
		}
		met++
		if len(a) > 1 && len(b) > 1 {
			long++
		}
	})
	if met < 500 || long < 100 || stopped > met/4 {
		t.Errorf("%d and %d pairs of lists meet, %d cannot be run", met, long, stopped)
	}
}

// sequenceAt returns the sequence of a splice, the first index of its range, and the size of Old.
func sequenceAt(s api.Splice) (sequence [3]int, at, old int) {
	old, _ = splice.Size(s)
	if s.Kind == api.SpliceCells {
		return [3]int{s.Kind, s.Id, s.At}, s.Sub, old
	}
	return [3]int{s.Kind, s.Id, 0}, s.At, old
}

// haveBetween reports whether two splices of the same sequence have an element between their ranges.
func haveBetween(s, u api.Splice) bool {
	one, a, n := sequenceAt(s)
	other, b, m := sequenceAt(u)
	return one == other && s.Kind <= api.SpliceCells && (a+n < b || b+m < a)
}

// checkUndo undoes the first one of two splices behind the second one.
func checkUndo(t *testing.T, d api.Document, s, u api.Splice) {
	t.Helper()
	if !transform.Independent(s, u) {
		t.Fatalf("%+v and %+v are not independent", s, u)
	}
	later, _ := transform.Over(u, s, false)
	back, e := transform.Over(splice.Inverse(s), later, true)
	if e != api.OK {
		t.Fatalf("%+v back over %+v: %d", s, later, e)
	}
	want, _ := runs(d, []api.Splice{u})
	if got, can := runs(d, []api.Splice{s, later, back}); !can || !document.Equal(got, want) {
		t.Fatalf("%+v, %+v, %+v of %+v lead to %+v; want %+v", s, later, back, d, got, want)
	}
}

func TestP20_6Undo(t *testing.T) {
	undone := make(map[int]int)
	others := possible(200)
	for _, s := range possible(100) {
		for _, u := range others {
			if haveBetween(s, u) {
				checkUndo(t, squares(), s, u)
				undone[s.Kind]++
			}
		}
	}
	wide := doc(table(10, row(someCells(11, 5)...), row(cell(20))))
	for at := range 5 {
		for sub := range 5 {
			s, u := cells(0, at, someCells(11+at, 1), someCells(100, at%3)), cells(0, sub, someCells(11+sub, 1), someCells(200, sub%3))
			if haveBetween(s, u) {
				checkUndo(t, wide, s, u)
				undone[api.SpliceCells]++
			}
		}
	}
	pairs(6000, 8, func(d api.Document, s, u api.Splice) {
		if !haveBetween(s, u) {
			return
		}
		later, _ := transform.Over(u, s, false)
		_, can := runs(d, []api.Splice{u})
		if _, too := runs(d, []api.Splice{s, later}); can && too {
			checkUndo(t, d, s, u)
			undone[0]++
		}
	})
	if undone[0] < 100 || undone[api.SpliceItems] < 100 || undone[api.SpliceRows] < 100 || undone[api.SpliceCells] < 10 {
		t.Errorf("%v were undone", undone)
	}
}

// TestP20_6Chapter runs the examples of the chapter.
func TestP20_6Chapter(t *testing.T) {
	insert := func(s string) []api.Splice { return []api.Splice{letters(2, "", s)} }
	x, y, e := transform.Lists(insert("x"), insert("y"))
	there, _ := runs(doc(text("abcdef")), insert("x"), y)
	other, _ := runs(doc(text("abcdef")), insert("y"), x)
	if want := show(doc(text("abxycdef"))); e != api.OK || show(there) != want || show(other) != want {
		t.Errorf("both orders lead to %+v and %+v", there, other)
	}
	edit := items(11, 0, nil, flow(text("x")))
	l := squares().Flow[1].Rows
	if _, e := transform.Over(edit, rows(0, l[:1], nil), true); e != api.ErrConflict {
		t.Errorf("an edit in a cell, and the deletion of its row: %d", e)
	}
	if got, e := transform.Over(edit, rows(1, l[1:2], nil), true); e != api.OK || !splice.Equal(got, edit) || !transform.Independent(edit, rows(1, l[1:2], nil)) {
		t.Errorf("an edit in a cell, and the deletion of another row: %+v, %d", got, e)
	}
}

// TestP20_6Large transforms long lists, and lists with large pieces.
func TestP20_6Large(t *testing.T) {
	var typed, other []api.Splice
	for i := range 600 {
		typed, other = append(typed, letters(i, "", "x")), append(other, letters(100+i, "", "y"))
	}
	var l []api.Item
	for i := range 3000 {
		l = append(l, note(i+1, text("a")))
	}
	typed = append(typed, items(0, 0, nil, l))
	d := doc(text(strings.Repeat("a", 200)))
	x, y, e := transform.Lists(typed, other)
	there, can := runs(d, splice.Compact(slices.Concat(typed, y)))
	back, too := runs(d, splice.Compact(slices.Concat(other, x)))
	if e != api.OK || !can || !too || !document.Equal(there, back) {
		t.Errorf("Lists = %d; %v, %v", e, can, too)
	}
}
