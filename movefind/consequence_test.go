package movefind_test

import (
	"math/rand/v2"
	"testing"

	"obelus/api"
	"obelus/compare"
	"obelus/document"
	"obelus/move"
	"obelus/movefind"
	"obelus/resolve"
	"obelus/run"
	"obelus/samples"
)

func TestP33_6Decisions(t *testing.T) {
	r := rand.New(rand.NewPCG(33, 20))
	marked := 0
	manyDocuments(600, 21, func(d api.Document, rev int) {
		least := 1 + r.IntN(4)
		got, count, e := movefind.Mark(d, rev, least)
		if e != api.OK || document.Check(got) != api.OK || !document.Equal(got, document.Normal(got)) {
			t.Fatalf("Mark(%+v, %d, %d) = %+v, %d, %d", d, rev, least, got, count, e)
		}
		if !document.Equal(resolve.Original(got), resolve.Original(d)) || !document.Equal(resolve.Final(got), resolve.Final(d)) {
			t.Fatalf("Mark(%+v, %d, %d) = %+v, which has other views", d, rev, least, got)
		}
		var ids []int
		for _, own := range d.Revs {
			ids = append(ids, own.Id)
		}
		c := samples.Decision(r.IntN, ids)
		before, _ := resolve.Resolve(d, c)
		behind, _ := resolve.Resolve(got, c)
		if !document.Equal(move.UnmoveAll(before), move.UnmoveAll(behind)) {
			t.Fatalf("Resolve(%+v, %+v) = %+v; without moves %+v", got, c, behind, before)
		}
		if count > 0 {
			marked++
		}
	})
	if marked < 200 {
		t.Errorf("%d documents have moved ranges", marked)
	}
}

func TestP33_6Ranges(t *testing.T) {
	r := rand.New(rand.NewPCG(33, 22))
	manyDocuments(600, 23, func(d api.Document, rev int) {
		least := 1 + r.IntN(4)
		l, _ := movefind.Find(d, rev, least)
		seen := make(map[api.Pos]bool)
		for _, f := range l {
			var texts []string
			for _, side := range []api.Range{f.From, f.To} {
				items, _ := document.Flow(d, side.Flow)
				part, e := run.Slice(items, side.From, side.To)
				if e != api.OK || side.To-side.From < least {
					t.Fatalf("Find(%+v, %d, %d) = %v", d, rev, least, l)
				}
				texts = append(texts, run.Text(part))
				for at := side.From; at < side.To; at++ {
					if p := (api.Pos{Flow: side.Flow, At: at}); seen[p] {
						t.Fatalf("Find(%+v, %d, %d) = %v has %v twice", d, rev, least, l, p)
					} else {
						seen[p] = true
					}
				}
			}
			if texts[0] != texts[1] {
				t.Fatalf("Find(%+v, %d, %d) = %v has the characters %q", d, rev, least, l, texts)
			}
		}
		marked, count, _ := movefind.Mark(d, rev, least)
		if again, e := movefind.Find(marked, rev, least); len(again) > 0 || count != len(l) || e != api.OK {
			t.Fatalf("Find(%+v, %d, %d) = %v, %d; Mark has the number %d", marked, rev, least, again, e, count)
		}
		if other, more, e := movefind.Mark(marked, rev, least); !document.Equal(other, marked) || more != 0 || e != api.OK {
			t.Fatalf("Mark(%+v, %d, %d) = %+v, %d, %d", marked, rev, least, other, more, e)
		}
	})
}

// TestP33_6Moves marks documents that have no moves before.
func TestP33_6Moves(t *testing.T) {
	manyDocuments(400, 24, func(d api.Document, rev int) {
		d = move.UnmoveAll(d)
		marked, count, e := movefind.Mark(d, rev, 2)
		l, _ := movefind.Find(d, rev, 2)
		if e == api.ErrRevision {
			return
		}
		moves := move.List(marked)
		if len(moves) != count || len(move.Problems(marked)) > 0 {
			t.Fatalf("Mark(%+v, %d, 2) = %+v, %d: the moves are %+v, the problems %+v", d, rev, marked, count, moves, move.Problems(marked))
		}
		for i, m := range moves {
			want := move.Move{Rev: rev, Number: i + 1, Sources: []api.Range{l[i].From}, Targets: []api.Range{l[i].To}}
			if show(m) != show(want) {
				t.Fatalf("Mark(%+v, %d, 2) has the move %+v; want %+v", d, rev, m, want)
			}
		}
	})
}

// TestT7MovesOfComparisons finds moves among the differences of two documents.
func TestT7MovesOfComparisons(t *testing.T) {
	r := rand.New(rand.NewPCG(33, 25))
	moved := 0
	for range 300 {
		a, b := samples.Versions(r.IntN)
		d, e := compare.Compare(a, b, revs()[0])
		if e != api.OK || len(d.Revs) == 0 {
			continue
		}
		marked, count, e := movefind.Mark(d, 1, 3)
		if e != api.OK || !document.Equal(resolve.Original(marked), document.Normal(a)) || !document.Same(resolve.Final(marked), b) {
			t.Fatalf("Mark(%+v, 1, 3) = %+v, %d, %d", d, marked, count, e)
		}
		moved += count
	}
	if moved < 100 {
		t.Errorf("%d ranges were moved", moved)
	}
}
