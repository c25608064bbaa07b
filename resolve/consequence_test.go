package resolve_test

import (
	"math/rand/v2"
	"slices"
	"testing"

	"obelus/api"
	"obelus/document"
	"obelus/mark"
	"obelus/resolve"
	"obelus/samples"
)

func TestP24_6Order(t *testing.T) {
	united := 0
	many(6000, 7, func(r *rand.Rand, d api.Document) {
		a, b := samples.Decision(r.IntN, someRevs(r)), samples.Decision(r.IntN, someRevs(r))
		both, e := mark.Union(a, b)
		if e != api.OK {
			return
		}
		united++
		want, _ := resolve.Resolve(d, both)
		for _, order := range [][2]api.Decision{{a, b}, {b, a}} {
			got, _ := resolve.Resolve(d, order[0])
			got, e := resolve.Resolve(got, order[1])
			if show(got) != show(want) || e != api.OK {
				t.Fatalf("%v make of %+v %+v, %d; want %+v", order, d, got, e, want)
			}
		}
	})
	if united < 1500 {
		t.Errorf("%d decisions were united", united)
	}
}

func TestP24_6Views(t *testing.T) {
	many(4000, 8, func(r *rand.Rand, d api.Document) {
		original, final := resolve.Original(d), resolve.Final(d)
		if !document.Plain(original) || !document.Plain(final) {
			t.Fatalf("the views of %+v are %+v and %+v", d, original, final)
		}
		c := samples.Decision(r.IntN, someRevs(r))
		rejected, _ := resolve.Resolve(d, decision(nil, c.Reject))
		if got := resolve.Original(rejected); show(got) != show(original) {
			t.Fatalf("rejecting %v changes the original view of %+v to %+v", c.Reject, d, got)
		}
		accepted, _ := resolve.Resolve(d, decision(c.Accept, nil))
		if got := resolve.Final(accepted); show(got) != show(final) {
			t.Fatalf("accepting %v changes the final view of %+v to %+v", c.Accept, d, got)
		}
		got, _ := resolve.Resolve(d, c)
		if e := document.Check(got); e != api.OK {
			t.Fatalf("Resolve(%+v, %v) = %+v, whose error is %d", d, c, got, e)
		}
		if show(got) != show(document.Normal(got)) || document.Units(got) > document.Units(d) {
			t.Fatalf("Resolve(%+v, %v) = %+v", d, c, got)
		}
		for _, id := range document.Ids(got) {
			if !slices.Contains(document.Ids(d), id) {
				t.Fatalf("Resolve(%+v, %v) has the id %d", d, c, id)
			}
		}
	})
}

// TestP24_6Units compares the units of flows of the final view with the visible ones.
func TestP24_6Units(t *testing.T) {
	some := 0
	many(2500, 9, func(_ *rand.Rand, d api.Document) {
		final := resolve.Final(d)
		for _, id := range resolve.Shown(d) {
			l, _ := document.Flow(d, id)
			visible, _ := resolve.Visible(d, id)
			var want []api.Item
			for i, u := range samples.Units(l) {
				if visible[i] {
					want = append(want, naiveFinal(api.Document{Flow: flow(u), Revs: d.Revs}).Flow...)
				}
			}
			got, _ := document.Flow(final, id)
			if show(samples.Units(got)) != show(want) {
				t.Fatalf("the flow %d of the final view of %+v is %+v; want %+v", id, d, got, want)
			}
			if len(want) > 0 && len(want) < len(visible) {
				some++
			}
		}
	})
	if some < 500 {
		t.Errorf("%d flows are partly visible", some)
	}
}

// TestP24_6Memory checks that arguments are not changed, and that results are new.
func TestP24_6Memory(t *testing.T) {
	many(1500, 10, func(r *rand.Rand, d api.Document) {
		d = document.Clone(d)
		c := samples.Decision(r.IntN, someRevs(r))
		before := show(d) + show(c)
		resolved, _ := resolve.Resolve(d, c)
		same, _ := resolve.Resolve(d, api.Decision{})
		accepted, _ := resolve.Accept(d, c.Accept)
		rejected, _ := resolve.Reject(d, c.Accept)
		all := []any{d, c, resolved, same, accepted, rejected, resolve.Original(d), resolve.Final(d), resolve.Shown(d)}
		visible, _ := resolve.Visible(d, 0)
		all = append(all, visible)
		for _, id := range document.Tables(d) {
			rows, _ := resolve.Rows(d, id)
			cells, _ := resolve.Cells(d, id, 0)
			all = append(all, rows, cells)
		}
		if !samples.Apart(all...) {
			t.Fatalf("%+v: results share memory", d)
		}
		if after := show(d) + show(c); after != before {
			t.Fatalf("%s was changed to %s", before, after)
		}
	})
}
