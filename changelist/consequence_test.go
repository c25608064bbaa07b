package changelist_test

import (
	"math/rand/v2"
	"slices"
	"testing"

	"obelus/api"
	"obelus/changelist"
	"obelus/document"
	"obelus/resolve"
	"obelus/samples"
)

// TestP29_6Revisions compares the entries with what is known of the whole document.
func TestP29_6Revisions(t *testing.T) {
	plain := 0
	many(2000, 7, func(r *rand.Rand, d api.Document) {
		if r.IntN(4) == 0 {
			d = resolve.Final(d)
		}
		l := changelist.List(d)
		if (len(l) == 0) != document.Plain(d) {
			t.Fatalf("%+v has the entries %+v", d, l)
		}
		if len(l) == 0 {
			plain++
		}
		var revs []int
		for _, e := range l {
			revs = append(revs, e.Rev)
		}
		slices.Sort(revs)
		revs = slices.Compact(revs)
		if used := document.Used(d); show(revs) != show(used) || show(changelist.Of(l, used)) != show(l) {
			t.Fatalf("the entries of %+v have the revisions %v", d, revs)
		}
		touched, e := changelist.Touched(d, api.Range{To: len(samples.Units(d.Flow))})
		all := append(touched, revsIn([]api.Head{d.End})...)
		slices.Sort(all)
		if show(slices.Compact(all)) != show(revs) || e != api.OK {
			t.Fatalf("%v were touched in %+v", touched, d)
		}
	})
	if plain < 300 {
		t.Errorf("%d documents are plain", plain)
	}
}

// TestP29_6Units looks for each unit at the entries that contain it.
func TestP29_6Units(t *testing.T) {
	insertions, deletions := 0, 0
	many(1000, 8, func(_ *rand.Rand, d api.Document) {
		l := changelist.List(d)
		containing := func(kind, rev int, p api.Pos) int {
			count := 0
			for _, e := range l {
				if e.Kind == kind && e.Scope == items && (rev == 0 || e.Rev == rev) && e.Range.Flow == p.Flow && e.Range.From <= p.At && p.At < e.Range.To {
					count++
				}
			}
			return count
		}
		for _, id := range document.Flows(d) {
			for at, u := range unitsOf(d, id) {
				p := api.Pos{Flow: id, At: at}
				m := u.Head.Marks
				if got, is := containing(insertion, 0, p), m.Ins != 0; is && got != 1 || !is && got != 0 || is && containing(insertion, m.Ins, p) != 1 {
					t.Fatalf("%+v of %+v is in %d insertions", p, d, got)
				}
				if m.Ins != 0 {
					insertions++
				}
				if got := containing(deletion, 0, p); got != len(m.Dels) {
					t.Fatalf("%+v of %+v is in %d deletions", p, d, got)
				}
				for _, del := range m.Dels {
					deletions++
					if got := containing(deletion, del.Rev, p); got != 1 {
						t.Fatalf("%+v of %+v is in %d deletions by %d", p, d, got, del.Rev)
					}
				}
			}
		}
	})
	if insertions < 1000 || deletions < 1000 {
		t.Errorf("%d units have insertions, %d deletions", insertions, deletions)
	}
}

// TestP29_6Apart compares entries with the same mark in a flow, which stand in order.
func TestP29_6Apart(t *testing.T) {
	pairs := 0
	many(2000, 9, func(_ *rand.Rand, d api.Document) {
		last := make(map[changelist.Entry]api.Range)
		for _, e := range changelist.List(d) {
			if e.Scope != items {
				continue
			}
			key := at(e, items, e.Range.Flow, 0, 0, 0, 0)
			before, found := last[key]
			if found && e.Range.From <= before.To || e.Range.From >= e.Range.To {
				t.Fatalf("%+v follows %+v in %+v", e, before, d)
			}
			if found {
				pairs++
			}
			last[key] = e.Range
		}
	})
	if pairs < 200 {
		t.Errorf("%d pairs of entries were compared", pairs)
	}
}

// TestP29_6Visits goes from entry to entry, forwards and backwards.
func TestP29_6Visits(t *testing.T) {
	many(600, 10, func(_ *rand.Rand, d api.Document) {
		var first, last []api.Pos // the different beginnings, by the first and by the last entry of each
		for _, e := range changelist.List(d) {
			if p := (api.Pos{Flow: e.Range.Flow, At: e.Range.From}); e.Scope != inEnd && (len(first) == 0 || first[len(first)-1] != p) {
				first = append(first, p)
			}
		}
		last = slices.Clone(first)
		slices.Reverse(last)
		flows := document.Flows(d)
		end := api.Pos{Flow: flows[len(flows)-1], At: api.MaxUnits}
		for k, step := range []func(api.Document, api.Pos) (changelist.Entry, bool){changelist.Next, changelist.Prev} {
			var visited []api.Pos
			p, want := []api.Pos{{Flow: 0, At: -1}, end}[k], [][]api.Pos{first, last}[k]
			for e, found := step(d, p); found; e, found = step(d, p) {
				p = api.Pos{Flow: e.Range.Flow, At: e.Range.From}
				visited = append(visited, p)
			}
			if show(visited) != show(want) {
				t.Fatalf("%d: %v are visited in %+v; want %v", k, visited, d, want)
			}
		}
	})
}

func TestP29_6Memory(t *testing.T) {
	many(1000, 11, func(r *rand.Rand, d api.Document) {
		l := changelist.List(d)
		before, list := show(d)+show(d.Flow[:cap(d.Flow)]), show(l)
		some := changelist.Of(l, document.Used(d))
		for i := range some {
			some[i].Rev = -1
		}
		if show(l) != list {
			t.Fatalf("Of shares the memory of its argument")
		}
		again, stats := changelist.List(d), changelist.Stats(d)
		for i := range again {
			again[i].Rev = -1
		}
		for i := range stats {
			stats[i].Revs = -1
		}
		for _, e := range l {
			changelist.Excerpt(d, e, r.IntN(3))
			changelist.Next(d, api.Pos{Flow: e.Range.Flow, At: e.Range.From})
			changelist.Prev(d, api.Pos{Flow: e.Range.Flow, At: e.Range.From})
		}
		span := someRange(r, d)
		touched, _ := changelist.Touched(d, span)
		other, _ := changelist.Touched(d, span)
		if !samples.Apart(d, touched, other) || show(changelist.List(d)) != list || show(d)+show(d.Flow[:cap(d.Flow)]) != before {
			t.Fatalf("memory of %+v is shared, or it was changed", d)
		}
	})
}

// TestP29_6Large lists the changes of a document of the greatest size, in which each unit has a mark of another revision than the one before.
func TestP29_6Large(t *testing.T) {
	var d api.Document
	for id := range api.MaxRevs {
		d.Revs = append(d.Revs, api.Rev{Id: id + 1, Author: string(rune('A' + id%4))})
	}
	for i := range api.MaxUnits - 256 {
		d.Flow = append(d.Flow, del(ins(text("a"), 1+i%api.MaxRevs, 0), by(1+(i+1)%api.MaxRevs, 1)))
	}
	var cells []api.Cell
	for i := range 256 {
		cells = append(cells, markedCell(api.Marks{Ins: 1 + i}, 1000-i, para()))
	}
	d.Flow[0] = ins(table(2000, row(cells[:32]...), row(cells[32:64]...)), 1, 0)
	for i := 64; i < 256; i++ {
		d.Flow[i] = note(3000+i, ins(para(), 1+i, 0))
	}
	if e := document.Check(d); e != api.OK {
		t.Fatalf("the document has the error %d", e)
	}
	const marked = api.MaxUnits - 256 - 193 // the units of the body with both marks
	l := changelist.List(d)
	if want := 2*marked + 1 + 64 + 192; len(l) != want {
		t.Errorf("%d entries; want %d", len(l), want)
	}
	if next, found := changelist.Next(d, api.Pos{Flow: 0, At: api.MaxUnits}); !found || next.Range.Flow != 3064 {
		t.Errorf("Next = %+v", next)
	}
	if prev, found := changelist.Prev(d, api.Pos{Flow: 3064, At: 0}); !found || prev.Range.From != api.MaxUnits-257 {
		t.Errorf("Prev = %+v", prev)
	}
	stats := changelist.Stats(d)
	inserted, deleted := 0, 0
	for _, s := range stats {
		inserted += s.Inserted
		deleted += s.Deleted
		if s.Revs != 64 || s.Moves != 64 || s.Tables != 16 {
			t.Errorf("Stats has %+v", s)
		}
	}
	if len(stats) != 4 || inserted != marked+1+192 || deleted != marked {
		t.Errorf("Stats = %+v", stats)
	}
	if got, e := changelist.Touched(d, api.Range{From: 0, To: 256}); len(got) != 256 || e != api.OK {
		t.Errorf("%d revisions were touched, %d", len(got), e)
	}
}
