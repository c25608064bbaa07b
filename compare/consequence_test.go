package compare_test

import (
	"testing"

	"obelus/api"
	"obelus/compare"
	"obelus/document"
	"obelus/resolve"
	"obelus/samples"
)

// TestP32_2Naive compares many documents in the words of the chapter.
func TestP32_2Naive(t *testing.T) {
	unlike, within := 0, 0
	manyPairs(t, 900, 1, func(a, b api.Document) {
		before := show(a) + show(b)
		got, e := compare.Compare(a, b, ann())
		want, f := naiveCompare(a, b, ann())
		if !document.Equal(got, want) || e != f {
			t.Fatalf("Compare(%+v, %+v) = %+v, %d; want %+v, %d", a, b, got, e, want, f)
		}
		if !samples.Apart(a, b, got) || show(a)+show(b) != before {
			t.Fatalf("Compare(%s) shares memory or has changed its arguments", before)
		}
		s := naiveSummary(got.Flow)
		if s.Inserted+s.Deleted > 0 {
			unlike++
		}
		if s.TablesInserted > 0 && s.TablesDeleted > 0 && s.TablesFormatted > 0 {
			within++
		}
		if got, e := compare.Summarize(a, b); got != s || e != f {
			t.Fatalf("Summarize(%+v, %+v) = %+v, %d; want %+v", a, b, got, e, s)
		}
	})
	if unlike < 600 || within < 30 {
		t.Errorf("%d documents differ, %d of them in tables", unlike, within)
	}
}

func TestP32_4Views(t *testing.T) {
	manyPairs(t, 400, 2, func(a, b api.Document) {
		d, e := compare.Compare(a, b, ann())
		if e != api.OK || document.Check(d) != api.OK || !document.Equal(d, document.Normal(d)) {
			t.Fatalf("Compare(%+v, %+v) = %+v, %d", a, b, d, e)
		}
		if got := resolve.Original(d); !document.Equal(got, plain(a)) {
			t.Fatalf("Original(%+v) = %+v; want %+v", d, got, a)
		}
		final := resolve.Final(d)
		if !document.Same(final, b) {
			t.Fatalf("Final(%+v) = %+v; want %+v", d, final, b)
		}
		accepted, e := resolve.Accept(d, []int{5})
		again, f := compare.Compare(accepted, b, ann())
		if e != api.OK || f != api.OK || !document.Plain(again) || !document.Equal(again, accepted) {
			t.Fatalf("Compare(%+v, %+v) = %+v, %d", accepted, b, again, f)
		}
	})
}

// plain returns the normal form of a document without marks.
func plain(d api.Document) api.Document {
	d.Revs = nil
	return document.Normal(d)
}

func TestP32_4Same(t *testing.T) {
	manyPairs(t, 200, 3, func(a, _ api.Document) {
		for i, other := range []api.Document{a, document.Normal(a), document.Renumber(a)} {
			if got, e := compare.Compare(a, other, ann()); e != api.OK || !document.Equal(got, plain(a)) {
				t.Fatalf("%d: Compare(%+v, %+v) = %+v, %d", i, a, other, got, e)
			}
			if got, e := compare.Summarize(other, a); got != (compare.Summary{}) || e != api.OK {
				t.Fatalf("%d: Summarize(%+v, %+v) = %+v, %d", i, other, a, got, e)
			}
		}
	})
}

func TestP32_4Marks(t *testing.T) {
	check := func(h api.Head) {
		if m := h.Marks; m.Ins != 0 && len(m.Dels)+len(m.Layers) > 0 || len(m.Dels) > 0 && len(m.Layers) > 0 || m.Move != 0 {
			t.Fatalf("the marks %+v", m)
		}
	}
	manyPairs(t, 300, 4, func(a, b api.Document) {
		d, _ := compare.Compare(a, b, ann())
		samples.Rewrite(0, d.Flow, func(_ int, units []api.Item) []api.Item {
			for _, u := range units {
				check(u.Head)
			}
			return units
		}, func(_ int, rows []api.Row) []api.Row {
			for _, r := range rows {
				check(r.Head)
				for _, c := range r.Cells {
					check(c.Head)
				}
			}
			return rows
		})
	})
}
