package dependency_test

import (
	"math/rand/v2"
	"slices"
	"testing"

	"obelus/api"
	"obelus/dependency"
	"obelus/document"
	"obelus/resolve"
	"obelus/samples"
)

// TestP27_6Inside has a mark of a revision in what another one has inserted.
func TestP27_6Inside(t *testing.T) {
	inside := 0
	many(1500, 8, func(_ *rand.Rand, d api.Document) {
		all := allOf(d)
		for _, outer := range all {
			for _, inner := range all {
				for _, rev := range revsOf(d) {
					if outer.head.Marks.Ins == 0 || outer.head.Marks.Ins == rev || !isAround(outer, inner) || marksOn(inner.head, rev) == 0 {
						continue
					}
					inside++
					if needs, _ := dependency.Needs(d, rev); !slices.Contains(needs, outer.head.Marks.Ins) {
						t.Fatalf("%d does not need %d in %+v", rev, outer.head.Marks.Ins, d)
					}
				}
			}
		}
	})
	if inside < 1000 {
		t.Errorf("%d marks are in insertions", inside)
	}
}

// TestP27_6Clusters decides about revisions of one cluster.
func TestP27_6Clusters(t *testing.T) {
	others := 0
	many(2000, 9, func(r *rand.Rand, d api.Document) {
		clusters := dependency.Clusters(d)
		for _, cluster := range clusters {
			c := samples.Decision(r.IntN, cluster)
			left, e := resolve.Resolve(d, c)
			if e != api.OK {
				t.Fatalf("%v has the error %d", c, e)
			}
			for _, rev := range revsOf(d) {
				before, after := dependency.Marks(d, rev), dependency.Marks(left, rev)
				if after > before || after < before && !slices.Contains(cluster, rev) {
					t.Fatalf("%d has %d marks behind %v, before it %d, in %+v", rev, after, c, before, d)
				}
				if !slices.Contains(cluster, rev) {
					others++
				}
			}
		}
	})
	if others < 500 {
		t.Errorf("there were %d revisions in other clusters", others)
	}
}

func TestP27_6Memory(t *testing.T) {
	many(1000, 10, func(r *rand.Rand, d api.Document) {
		revs := append(revsOf(d), revsOf(d)...)
		r.Shuffle(len(revs), func(i, j int) { revs[i], revs[j] = revs[j], revs[i] })
		c := samples.Decision(r.IntN, revsOf(d))
		before := show(d) + show(d.Flow[:cap(d.Flow)]) + show(revs) + show(c)
		values := []any{d, revs, c}
		for range 2 {
			for _, cluster := range dependency.Clusters(d) {
				values = append(values, cluster)
			}
			for _, rev := range revsOf(d) {
				needs, _ := dependency.Needs(d, rev)
				covers, _ := dependency.Covers(d, rev)
				values = append(values, needs, covers)
			}
			accepting, _ := dependency.Accepting(d, revs)
			rejecting, _ := dependency.Rejecting(d, revs)
			lost, _ := dependency.Loses(d, c)
			values = append(values, accepting, rejecting, lost)
		}
		dependency.Of(d, c)
		dependency.Touch(d, 1, 2)
		if !samples.Apart(values...) || show(d)+show(d.Flow[:cap(d.Flow)])+show(revs)+show(c) != before {
			t.Fatalf("memory of %+v is shared, or it was changed", d)
		}
	})
}

// TestP27_6Large looks at a document of the greatest size with as many revisions as possible: each one marks what the one before has inserted.
func TestP27_6Large(t *testing.T) {
	var d api.Document
	for id := range api.MaxRevs {
		d.Revs = append(d.Revs, api.Rev{Id: id + 1, Author: "Ann"})
	}
	for i := range api.MaxUnits {
		own := 1 + i%api.MaxRevs
		d.Flow = append(d.Flow, del(ins(text("a"), own), own%api.MaxRevs+1))
	}
	if e := document.Check(d); e != api.OK {
		t.Fatalf("the document has the error %d", e)
	}
	if got := dependency.Clusters(d); len(got) != 1 || len(got[0]) != api.MaxRevs {
		t.Errorf("Clusters = %v", got)
	}
	needs, e := dependency.Needs(d, 7)
	accepting, err := dependency.Accepting(d, []int{7})
	if show(needs) != "[6]" || len(accepting) != api.MaxRevs || e != api.OK || err != api.OK {
		t.Errorf("Needs = %v, %d, Accepting = %v, %d", needs, e, accepting, err)
	}
	covers, e := dependency.Covers(d, 7)
	rejecting, err := dependency.Rejecting(d, []int{7})
	if show(covers) != "[6]" || len(rejecting) != api.MaxRevs || e != api.OK || err != api.OK {
		t.Errorf("Covers = %v, %d, Rejecting = %v, %d", covers, e, rejecting, err)
	}
	if !dependency.Touch(d, 1, api.MaxRevs) || dependency.Touch(d, 1, 3) || dependency.Marks(d, 9) != 2*api.MaxUnits/api.MaxRevs {
		t.Errorf("Marks = %d", dependency.Marks(d, 9))
	}
}
