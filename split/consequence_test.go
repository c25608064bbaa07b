package split_test

import (
	"math/rand/v2"
	"slices"
	"testing"

	"obelus/api"
	"obelus/document"
	"obelus/move"
	"obelus/resolve"
	"obelus/revision"
	"obelus/samples"
	"obelus/split"
)

// sameViews checks that a result is valid and in normal form, and has the views of the document before.
func sameViews(t *testing.T, d, got api.Document) {
	t.Helper()
	if document.Check(got) != api.OK || !document.Equal(got, document.Normal(got)) {
		t.Fatalf("%+v leads to %+v, which has the error %d", d, got, document.Check(got))
	}
	if show(resolve.Original(got)) != show(resolve.Original(d)) || show(resolve.Final(got)) != show(resolve.Final(d)) {
		t.Fatalf("%+v, which has other views, leads to %+v", d, got)
	}
}

// sameDecisions checks that accepting and rejecting revisions after a change is the same as accepting and rejecting others before it.
func sameDecisions(t *testing.T, d, got api.Document, before, after []int) {
	t.Helper()
	slices.Sort(after)
	for _, f := range []func(api.Document, []int) (api.Document, api.Errno){resolve.Accept, resolve.Reject} {
		want, _ := f(d, before)
		if left, e := f(got, after); show(left) != show(want) || e != api.OK {
			t.Fatalf("%+v leads to %+v, which is decided to %+v, %d; want %+v", d, got, left, e, want)
		}
	}
}

// TestP28_5Split also combines the parts again, which is the same as combining the revision with itself, but for the numbers of moves.
func TestP28_5Split(t *testing.T) {
	divided := 0
	many(10000, 6, func(r *rand.Rand, d api.Document) {
		own, next := one(r, d.Revs, rev(1)), api.Rev{Id: []int{3, 6, 77}[r.IntN(3)], Author: "Eve"}
		got, e := split.Split(d, own.Id, someRange(r, d), next)
		if e != api.OK {
			return
		}
		divided++
		sameViews(t, d, got)
		both := []int{min(own.Id, next.Id), max(own.Id, next.Id)}
		sameDecisions(t, d, got, []int{own.Id}, both)
		again, e := split.Combine(got, both, own)
		want, err := split.Combine(d, []int{own.Id}, own)
		if show(move.UnmoveAll(again)) != show(move.UnmoveAll(want)) || e != err {
			t.Fatalf("%+v, divided and combined, is %+v, %d; want %+v, %d", d, again, e, want, err)
		}
	})
	if divided < 300 {
		t.Errorf("%d revisions were divided", divided)
	}
}

func TestP28_5Combine(t *testing.T) {
	combined := 0
	many(4000, 7, func(r *rand.Rand, d api.Document) {
		revs, into := someRevs(r, d), someRev(r, d)
		got, e := split.Combine(d, revs, into)
		if e != api.OK {
			return
		}
		combined++
		sameViews(t, d, got)
		sameDecisions(t, d, got, revs, []int{into.Id})
		if _, found := revision.Find(got.Revs, into.Id); found != slices.ContainsFunc(revs, func(rev int) bool { return slices.Contains(document.Used(d), rev) }) && document.Units(got) == document.Units(d) {
			t.Fatalf("%+v with %v combined into %v is %+v", d, revs, into, got)
		}
	})
	if combined < 500 {
		t.Errorf("%d lists were combined", combined)
	}
}

func TestP28_5Reassign(t *testing.T) {
	back := 0
	many(3000, 8, func(r *rand.Rand, d api.Document) {
		own, to := one(r, d.Revs, rev(1)), someRev(r, d)
		got, e := split.Reassign(d, own.Id, to)
		if e != api.OK {
			return
		}
		sameViews(t, d, got)
		sameDecisions(t, d, got, []int{own.Id}, []int{to.Id})
		if !slices.Contains(document.Used(d), own.Id) {
			return
		}
		back++
		if again, e := split.Reassign(got, to.Id, own); show(again) != show(document.Normal(d)) || e != api.OK {
			t.Fatalf("%+v, reassigned and back, is %+v, %d", d, again, e)
		}
	})
	if back < 500 {
		t.Errorf("%d revisions were reassigned and back", back)
	}
}

func TestP28_5Memory(t *testing.T) {
	many(3000, 9, func(r *rand.Rand, d api.Document) {
		d = document.Clone(d)
		own, next, s, revs := one(r, d.Revs, rev(1)), someRev(r, d), someRange(r, d), someRevs(r, d)
		before := show(d) + show(d.Flow[:cap(d.Flow)]) + show(revs) + show(d.Revs[:cap(d.Revs)])
		divided, _ := split.Split(d, own.Id, s, next)
		combined, _ := split.Combine(d, revs, next)
		other, _ := split.Reassign(d, own.Id, next)
		split.Count(d, own.Id, s)
		if !samples.Apart(d, revs, divided, combined, other) || show(d)+show(d.Flow[:cap(d.Flow)])+show(revs)+show(d.Revs[:cap(d.Revs)]) != before {
			t.Fatalf("memory of %+v is shared, or it was changed", d)
		}
	})
}

// TestP28_5Large divides and combines the revisions of a document of the greatest size, each unit of which belongs to two moves.
func TestP28_5Large(t *testing.T) {
	d := api.Document{Revs: []api.Rev{rev(3), rev(5), rev(7)}}
	for i := range api.MaxUnits {
		d.Flow = append(d.Flow, del(ins(text("a"), 3, i/2+1), by(7, i/4+1)))
	}
	half := span(0, 0, api.MaxUnits/2)
	got, e := split.Split(d, 3, half, rev(4))
	if inside, outside, err := split.Count(d, 7, half); inside != api.MaxUnits/2 || outside != inside || e != api.OK || err != api.OK || got.Flow[0].Head.Marks.Ins != 4 || got.Flow[api.MaxUnits/2-1].Head.Marks.Ins != 3 {
		t.Errorf("Split leads to %d items, %d", len(got.Flow), e)
	}
	if _, e := split.Split(d, 7, span(0, 0, api.MaxUnits/2+2), rev(4)); e != api.ErrMove {
		t.Errorf("Split = %d", e)
	}
	again, e := split.Combine(got, []int{3, 4}, rev(8))
	if m := again.Flow[0].Head.Marks; e != api.OK || m.Ins != 8 || m.Move != api.MaxUnits/4+1 || again.Flow[api.MaxUnits/2-1].Head.Marks.Move != api.MaxUnits/4 {
		t.Errorf("Combine leads to %+v, %d", m, e)
	}
}
