package track_test

import (
	"math/rand/v2"
	"slices"
	"testing"

	"obelus/api"
	"obelus/document"
	"obelus/edit"
	"obelus/resolve"
	"obelus/samples"
	"obelus/track"
)

// full shows a document and an edit together with what stands behind the ends of some of their slices.
func full(d api.Document, e api.Edit) string {
	return show(d.Flow[:cap(d.Flow)]) + show(d) + show(d.Revs[:cap(d.Revs)]) + show(e) + show(e.Items[:cap(e.Items)]) + show(e.Rows[:cap(e.Rows)]) + show(e.Cells[:cap(e.Cells)])
}

func TestP25_4Run(t *testing.T) {
	insert := func(at int, s string) api.Edit { return api.Edit{Kind: api.EditInsert, At: at, Items: flow(text(s))} }
	remove := api.Edit{Kind: api.EditDelete, At: 1, Count: 1}
	d := doc(text("abcd"))
	example := []track.Change{{remove, ann()}, {insert(1, "x"), bob()}, {remove, ann()}}
	for count, want := range []api.Document{d, abcd(), doc(text("a"), ins(text("x"), 2, 0), del(text("b"), by(1)), text("cd")), doc(text("a"), del(ins(text("x"), 2, 0), by(1)), del(text("b"), by(1)), text("cd"))} {
		if got, at, e := track.Run(d, example[:count]); show(got) != show(want) || at != count || e != api.OK {
			t.Errorf("%d: Run = %+v, %d, %d; want %+v", count, got, at, e, want)
		}
	}
	wrong := track.Change{Edit: insert(9, "x"), Rev: bob()}
	for i, c := range []struct {
		l    []track.Change
		want int
		e    api.Errno
	}{{[]track.Change{wrong}, 0, api.ErrRange}, {append(slices.Clone(example), wrong, example[0]), 3, api.ErrRange}, {[]track.Change{example[0], {remove, api.Rev{Id: 1, Author: "Bob"}}}, 1, api.ErrRevision}, {[]track.Change{example[0], {insert(0, ""), ann()}, wrong}, 1, api.ErrEmpty}, {[]track.Change{{insert(4, "x"), ann()}, {insert(5, "x"), ann()}, {insert(7, "x"), ann()}}, 2, api.ErrRange}} {
		if got, at, e := track.Run(d, c.l); !isEmpty(got) || at != c.want || e != c.e {
			t.Errorf("%d: Run = %+v, %d, %d", i, got, at, e)
		}
	}
	if got, at, e := track.Run(api.Document{}, nil); !isEmpty(got) || at != 0 || e != api.OK {
		t.Errorf("Run = %+v, %d, %d", got, at, e)
	}
}

// history makes tracked changes of a document, and returns the documents behind each of them.
func history(r *rand.Rand, d api.Document, count int) (l []track.Change, behind []api.Document) {
	for len(l) < count {
		c := track.Change{Edit: samples.Edit(r.IntN, resolve.Final(d)), Rev: samples.Revs()[r.IntN(5)]}
		if fresh := document.Fresh(d); c.Edit.Kind == api.EditMove {
			c.Edit.Fresh = fresh
		}
		if next, e := track.Track(d, c.Edit, c.Rev); e == api.OK {
			d = next
			l, behind = append(l, c), append(behind, d)
		}
	}
	return l, behind
}

// TestP25_4Many runs several changes at once, sometimes with one that is not possible.
func TestP25_4Many(t *testing.T) {
	r := rand.New(rand.NewPCG(25, 5))
	for range 300 {
		d := document.Normal(samples.Document(r.IntN))
		l, behind := history(r, d, 5)
		if got, at, e := track.Run(d, l); show(got) != show(behind[4]) || at != 5 || e != api.OK {
			t.Fatalf("Run(%+v, %+v) = %+v, %d, %d; want %+v", d, l, got, at, e, behind[4])
		}
		broken := r.IntN(5)
		l[broken].Rev.Author += "x"
		want := track.Check(append([]api.Document{d}, behind...)[broken], l[broken].Edit, l[broken].Rev)
		if got, at, e := track.Run(d, l); want != api.OK && (!isEmpty(got) || at != broken || e != want) {
			t.Fatalf("Run(%+v, %+v) = %+v, %d, %d; want %d, %d", d, l, got, at, e, broken, want)
		}
	}
}

// check checks everything that holds behind each tracked edit.
func check(t *testing.T, d, got api.Document, e api.Edit, rev api.Rev) {
	t.Helper()
	if document.Check(got) != api.OK || !document.Equal(got, document.Normal(got)) {
		t.Fatalf("Track(%+v, %+v) = %+v, which has the error %d", d, e, got, document.Check(got))
	}
	want, err := edit.Apply(resolve.Final(d), e)
	if final := resolve.Final(got); show(final) != show(want) || err != api.OK {
		t.Fatalf("the final view of %+v behind %+v is %+v; want %+v, %d", d, e, final, want, err)
	}
	if before, after := resolve.Original(d), resolve.Original(got); edit.Tracked(e.Kind) && show(before) != show(after) {
		t.Fatalf("the original view of %+v behind %+v is %+v; want %+v", d, e, after, before)
	}
	for _, one := range got.Revs {
		if one != rev && !slices.Contains(d.Revs, one) {
			t.Fatalf("%+v by %v uses the revision %v", e, rev, one)
		}
	}
	if slices.ContainsFunc(d.Revs, func(own api.Rev) bool { return own.Id == rev.Id }) {
		return
	}
	if back, _ := resolve.Reject(got, []int{rev.Id}); edit.Tracked(e.Kind) && show(back) != show(d) {
		t.Fatalf("rejecting %+v of %+v again is %+v", e, d, back)
	}
}

func TestP25_5Square(t *testing.T) {
	kinds := make(map[int]int)
	many(16000, 6, func(_ *rand.Rand, d api.Document, e api.Edit, rev api.Rev) {
		before := full(d, e)
		got, err := track.Track(d, e, rev)
		if full(d, e) != before {
			t.Fatalf("Track has changed its arguments: %+v, %+v", d, e)
		}
		if err != api.OK {
			return
		}
		check(t, d, got, e, rev)
		if !samples.Apart(got, d, e) {
			t.Fatalf("Track(%+v, %+v) shares memory with its arguments", d, e)
		}
		kinds[e.Kind]++
	})
	for kind := 1; kind <= 14; kind++ {
		if kinds[kind] < 20 {
			t.Errorf("%d edits of the kind %d were tracked", kinds[kind], kind)
		}
	}
}

// TestP25_5Histories tracks many edits of a document without marks: deciding about all of them leads to the document behind the edits, or to the first one.
func TestP25_5Histories(t *testing.T) {
	r := rand.New(rand.NewPCG(25, 7))
	layered := 0
	for range 150 {
		d := document.Normal(samples.Plain(r.IntN))
		l, behind := history(r, d, 16)
		original, plain := d, d
		var edits []api.Edit
		for i, c := range l {
			check(t, d, behind[i], c.Edit, c.Rev)
			d = behind[i]
			edits = append(edits, c.Edit)
			if !edit.Tracked(c.Edit.Kind) {
				original = resolve.Original(d)
			}
		}
		plain, _, err := edit.Run(plain, edits)
		if err != api.OK {
			t.Fatalf("the edits %+v have the error %d", edits, err)
		}
		order := r.Perm(len(d.Revs))
		accepted, rejected := d, d
		for _, i := range order {
			accepted, _ = resolve.Accept(accepted, []int{d.Revs[i].Id})
			rejected, _ = resolve.Reject(rejected, []int{d.Revs[i].Id})
		}
		if show(accepted) != show(plain) || show(rejected) != show(original) {
			t.Fatalf("%+v is %+v if all is accepted, %+v if all is rejected; want %+v, %+v", d, accepted, rejected, plain, original)
		}
		if len(d.Revs) > 2 {
			layered++
		}
	}
	if layered < 50 {
		t.Errorf("%d documents have several revisions", layered)
	}
}

// TestP25_6Back deletes what the same revision has just inserted.
func TestP25_6Back(t *testing.T) {
	kinds := make(map[int]int)
	many(20000, 8, func(_ *rand.Rand, d api.Document, e api.Edit, rev api.Rev) {
		got, err := track.Track(d, e, rev)
		back := api.Edit{Flow: e.Flow, At: e.At, Sub: e.Sub}
		switch e.Kind {
		case api.EditInsert:
			back.Kind, back.Count = api.EditDelete, len(samples.Units(e.Items))
		case api.EditInsertRows:
			back.Kind, back.Count = api.EditDeleteRows, len(e.Rows)
		case api.EditInsertCells:
			back.Kind, back.Count = api.EditDeleteCells, len(e.Cells)
		default:
			return
		}
		if err != api.OK {
			return
		}
		if again, err := track.Track(got, back, rev); show(again) != show(d) || err != api.OK {
			t.Fatalf("%+v of %+v and back is %+v, %d", e, d, again, err)
		}
		kinds[e.Kind]++
	})
	if kinds[api.EditInsert] < 100 || kinds[api.EditInsertRows] < 50 || kinds[api.EditInsertCells] < 30 {
		t.Errorf("the kinds are %v", kinds)
	}
	// what others have changed in a table that is inserted and deleted by the same revision disappears with it
	d := doc(text("a"), ins(table(1, row(cell(2, text("x")))), 1, 0))
	in := api.Edit{Kind: api.EditDelete, Flow: 2, Count: 1}
	one, _ := track.Track(d, in, ann())
	if want := doc(text("a"), ins(table(1, row(cell(2, del(text("x"), by(1))))), 1, 0)); show(one) != show(want) {
		t.Errorf("a text of the table: %+v", one)
	}
	two, _ := track.Track(d, in, bob())
	if got, e := track.Track(two, api.Edit{Kind: api.EditDelete, At: 1, Count: 1}, ann()); show(got) != show(doc(text("a"))) || e != api.OK {
		t.Errorf("the table: %+v, %d", got, e)
	}
}

func TestP25_6NewMemory(t *testing.T) {
	d := hidden()
	before := show(d)
	l, e := track.Ranges(d, span(0, 0, 6))
	other, f := track.Ranges(d, span(0, 0, 6))
	if !samples.Apart(d, l, other) || e != api.OK || f != api.OK {
		t.Error("Ranges shares memory")
	}
	if got, _, _ := track.Run(d, nil); show(got) != before || !samples.Apart(got, d) {
		t.Errorf("Run without changes = %+v", got)
	}
	track.Move(d, 1)
	track.Locate(d, pos(0, 2))
	track.View(d, pos(0, 2))
	if show(d) != before {
		t.Error("an argument was changed")
	}
}

// TestP25_6Large tracks edits of a document of the greatest size, in which each unit is an item of its own.
func TestP25_6Large(t *testing.T) {
	var l []api.Item
	for i := range api.MaxUnits / 2 {
		l = append(l, text("a", prop(bold, i%2)))
	}
	l[7].Head.Marks.Ins = 1
	d := doc(l...)
	changes := []track.Change{{api.Edit{Kind: api.EditMove, Count: api.MaxUnits/2 - 1, ToAt: api.MaxUnits / 2, Fresh: 1}, ann()}, {api.Edit{Kind: api.EditFormat, Count: api.MaxUnits / 2, Key: bold, Clear: true}, bob()}, {api.Edit{Kind: api.EditDelete, Count: api.MaxUnits / 2}, ann()}}
	got, at, e := track.Run(d, changes)
	if final := resolve.Final(got); len(final.Flow) != 0 || document.Units(got) != api.MaxUnits/2-1 || at != 3 || e != api.OK {
		t.Errorf("Run leaves %d units, %d, %d", document.Units(got), at, e)
	}
}
