package piecetree_test

import (
	"math"
	"math/bits"
	"math/rand/v2"
	"slices"
	"strings"
	"testing"

	"obelus/api"
	"obelus/piecetree"
	"obelus/samples"
)

func newTree(t *testing.T, s string) *piecetree.Tree {
	t.Helper()
	tree, e := piecetree.New(s)
	if tree == nil || e != api.OK {
		t.Fatalf("New of %d bytes = %p, %d", len(s), tree, e)
	}
	return tree
}

// inPieces returns a tree that stores s in pieces of one byte, which were inserted in a mixed order.
func inPieces(t *testing.T, s string) *piecetree.Tree {
	t.Helper()
	tree := newTree(t, "")
	for _, step := range []int{1, 0} {
		for i := range len(s) {
			if i%2 == step {
				at := i / 2
				if step == 0 {
					at = i
				}
				if e := tree.Insert(at, s[i:i+1]); e != api.OK {
					t.Fatalf("Insert(%d) = %d", at, e)
				}
			}
		}
	}
	return tree
}

// trees returns trees that store s in different pieces.
func trees(t *testing.T, s string) []*piecetree.Tree {
	t.Helper()
	cut := newTree(t, s)
	if e := cut.Insert(len(s)/2, "xyz"); e != api.OK {
		t.Fatalf("Insert = %d", e)
	}
	if e := cut.Delete(len(s)/2, len(s)/2+3); e != api.OK {
		t.Fatalf("Delete = %d", e)
	}
	return []*piecetree.Tree{newTree(t, s), inPieces(t, s), cut}
}

// stores checks that a tree stores s, as far as each method of one call tells.
func stores(t *testing.T, tree *piecetree.Tree, s string) {
	t.Helper()
	if got := tree.String(); got != s {
		t.Fatalf("String() = %q; want %q", got, s)
	}
	if got := tree.Len(); got != len(s) {
		t.Fatalf("Len() = %d; want %d", got, len(s))
	}
	if got, want := tree.Lines(), 1+strings.Count(s, "\n"); got != want {
		t.Fatalf("Lines() of %q = %d; want %d", s, got, want)
	}
	if (tree.Pieces() == 0) != (s == "") || (tree.Depth() == 0) != (s == "") {
		t.Fatalf("%q has %d pieces in %d levels", s, tree.Pieces(), tree.Depth())
	}
}

// bounded checks P4.5 for a tree after a number of calls without errors.
func bounded(t *testing.T, tree *piecetree.Tree, calls int) {
	t.Helper()
	pieces, depth := tree.Pieces(), tree.Depth()
	if tree.Len() == 0 {
		if pieces != 0 || depth != 0 {
			t.Fatalf("the empty tree has %d pieces in %d levels", pieces, depth)
		}
		return
	}
	if pieces < 1 || pieces > 2*calls+1 {
		t.Fatalf("%d pieces after %d calls", pieces, calls)
	}
	if depth < 1 || depth > 2*bits.Len(uint(pieces)) {
		t.Fatalf("%d levels of %d pieces", depth, pieces)
	}
}

func isRange(s string, from, to int) bool { return 0 <= from && from <= to && to <= len(s) }

func TestP1AllArguments(t *testing.T) {
	for _, s := range []string{"", "a", "a\nbc\n"} {
		list := append(trees(t, s), newTree(t, s).Snapshot())
		if s == "" {
			list = append(list, new(piecetree.Tree))
		}
		for _, tree := range list {
			for _, n := range samples.Numbers() {
				if from, to, e := tree.Line(n); e != api.OK && (from != 0 || to != 0) {
					t.Errorf("Line(%d) = %d, %d, %d", n, from, to, e)
				}
				if line, e := tree.LineAt(n); e != api.OK && line != 0 {
					t.Errorf("LineAt(%d) = %d, %d", n, line, e)
				}
				for _, m := range samples.Numbers() {
					if x, e := tree.Slice(n, m); e != api.OK && x != "" {
						t.Errorf("Slice(%d, %d) = %q, %d", n, m, x, e)
					}
					if l, e := tree.Chunks(n, m); e != api.OK && len(l) != 0 {
						t.Errorf("Chunks(%d, %d) = %q, %d", n, m, l, e)
					}
					edited := tree.Snapshot()
					if e := edited.Replace(n, m, "xy"); (e == api.OK) != isRange(s, n, m) || e != api.OK && edited.String() != s {
						t.Errorf("Replace(%d, %d) of %q = %d, leaves %q", n, m, s, e, edited)
					}
				}
			}
			stores(t, tree, s)
		}
	}
}

func TestP1NilTree(t *testing.T) {
	var tree *piecetree.Tree
	if tree.Len() != 0 || tree.String() != "" || tree.Pieces() != 0 || tree.Depth() != 0 || tree.Lines() != 0 || tree.Snapshot() != nil {
		t.Error("a method of the nil tree returns no zero value")
	}
	if !tree.Equal(nil) || tree.Equal(newTree(t, "")) || newTree(t, "").Equal(nil) || new(piecetree.Tree).Equal(tree) {
		t.Error("Equal of the nil tree")
	}
	for _, n := range samples.Numbers() {
		from, to, e := tree.Line(n)
		if from != 0 || to != 0 || e != api.ErrArgument {
			t.Errorf("Line(%d) = %d, %d, %d", n, from, to, e)
		}
		if line, e := tree.LineAt(n); line != 0 || e != api.ErrArgument {
			t.Errorf("LineAt(%d) = %d, %d", n, line, e)
		}
		if s, e := tree.Slice(n, n); s != "" || e != api.ErrArgument {
			t.Errorf("Slice(%d, %d) = %q, %d", n, n, s, e)
		}
		if l, e := tree.Chunks(n, n); len(l) != 0 || e != api.ErrArgument {
			t.Errorf("Chunks(%d, %d) = %q, %d", n, n, l, e)
		}
		if e := []api.Errno{tree.Insert(n, "a"), tree.Delete(n, n), tree.Replace(n, n, "")}; !slices.Equal(e, []api.Errno{api.ErrArgument, api.ErrArgument, api.ErrArgument}) {
			t.Errorf("edits at %d: %d", n, e)
		}
	}
}

func TestP4_1New(t *testing.T) {
	var every []byte
	for b := range 256 {
		every = append(every, byte(b))
	}
	for _, s := range []string{"", "a", "\n", "\x00", string(every), "\xFF\xC0\x80", "a\u20ac\U0001F600", strings.Repeat("x\n", piecetree.MaxBytes/2-1), strings.Repeat("z", piecetree.MaxBytes)} {
		stores(t, newTree(t, s), s)
	}
	for _, size := range []int{piecetree.MaxBytes + 1, 2 * piecetree.MaxBytes} {
		if tree, e := piecetree.New(strings.Repeat("a", size)); tree != nil || e != api.ErrLong {
			t.Errorf("New of %d bytes = %p, %d", size, tree, e)
		}
	}
	if piecetree.MaxBytes != 65536 {
		t.Errorf("MaxBytes = %d", piecetree.MaxBytes)
	}
}

func TestP4_2SliceAndChunks(t *testing.T) {
	for _, s := range []string{"", "a", "ab\ncdef\n\nghij\xFFk"} {
		for _, tree := range trees(t, s) {
			for from := -2; from <= len(s)+2; from++ {
				for to := -2; to <= len(s)+2; to++ {
					want, wantErr := "", api.ErrRange
					if isRange(s, from, to) {
						want, wantErr = s[from:to], api.OK
					}
					if got, e := tree.Slice(from, to); got != want || e != wantErr {
						t.Errorf("Slice(%d, %d) of %q = %q, %d", from, to, s, got, e)
					}
					list, e := tree.Chunks(from, to)
					if strings.Join(list, "") != want || e != wantErr || len(list) > tree.Pieces() || slices.Contains(list, "") {
						t.Errorf("Chunks(%d, %d) of %q = %q, %d", from, to, s, list, e)
					}
				}
			}
			for _, n := range []int{math.MinInt, math.MaxInt} {
				for _, pair := range [][2]int{{n, 0}, {0, n}, {n, n}, {n, -n}} {
					if got, e := tree.Slice(pair[0], pair[1]); got != "" || e != api.ErrRange {
						t.Errorf("Slice(%d) of %q = %q, %d", pair, s, got, e)
					}
					if list, e := tree.Chunks(pair[0], pair[1]); len(list) != 0 || e != api.ErrRange {
						t.Errorf("Chunks(%d) of %q = %q, %d", pair, s, list, e)
					}
				}
			}
		}
	}
}

func TestP4_2NewMemory(t *testing.T) {
	tree := newTree(t, "abc")
	list, _ := tree.Chunks(0, 3)
	list[0] = "x"
	if list, _ := tree.Chunks(0, 3); strings.Join(list, "") != "abc" {
		t.Errorf("the result of Chunks is kept: %q", list)
	}
}

func TestP4_3Replace(t *testing.T) {
	const s = "ab\ncdef\ng"
	for from := -2; from <= len(s)+2; from++ {
		for to := -2; to <= len(s)+2; to++ {
			for _, by := range []string{"", "X", "XY\nZ"} {
				for _, tree := range trees(t, s) {
					want, wantErr := s, api.ErrRange
					if isRange(s, from, to) {
						want, wantErr = s[:from]+by+s[to:], api.OK
					}
					if e := tree.Replace(from, to, by); e != wantErr {
						t.Fatalf("Replace(%d, %d, %q) of %q = %d", from, to, by, s, e)
					}
					stores(t, tree, want)
				}
			}
		}
	}
}

func TestP4_3InsertAndDelete(t *testing.T) {
	const s = "ab\ncdef\ng"
	for from := -2; from <= len(s)+2; from++ {
		for _, tree := range trees(t, s) {
			want, wantErr := s, api.ErrRange
			if isRange(s, from, from) {
				want, wantErr = s[:from]+"X\n"+s[from:], api.OK
			}
			if e := tree.Insert(from, "X\n"); e != wantErr {
				t.Fatalf("Insert(%d) = %d", from, e)
			}
			stores(t, tree, want)
		}
		for to := -2; to <= len(s)+2; to++ {
			for _, tree := range trees(t, s) {
				want, wantErr := s, api.ErrRange
				if isRange(s, from, to) {
					want, wantErr = s[:from]+s[to:], api.OK
				}
				if e := tree.Delete(from, to); e != wantErr {
					t.Fatalf("Delete(%d, %d) = %d", from, to, e)
				}
				stores(t, tree, want)
			}
		}
	}
}

func TestP4_3Limit(t *testing.T) {
	full := strings.Repeat("a", piecetree.MaxBytes)
	for _, c := range []struct {
		from, to int
		s        string
		want     api.Errno
	}{
		{0, 0, "", api.OK},
		{0, 0, "x", api.ErrLong},
		{9, 9, "x", api.ErrLong},
		{len(full), len(full), "x", api.ErrLong},
		{3, 5, "xy", api.OK},
		{3, 5, "xyz", api.ErrLong},
		{0, len(full), strings.ToUpper(full), api.OK},
		{0, len(full), full + "x", api.ErrLong},
		{5, 3, full, api.ErrRange},
		{-1, 3, full, api.ErrRange},
		{3, len(full) + 1, full, api.ErrRange},
		{math.MaxInt, math.MinInt, full, api.ErrRange},
	} {
		tree := newTree(t, full)
		if e := tree.Replace(c.from, c.to, c.s); e != c.want {
			t.Errorf("Replace(%d, %d) by %d bytes = %d; want %d", c.from, c.to, len(c.s), e, c.want)
		}
		want := full
		if c.want == api.OK {
			want = full[:c.from] + c.s + full[c.to:]
		}
		stores(t, tree, want)
	}
	tree := newTree(t, full[1:])
	if e := tree.Insert(7, "xy"); e != api.ErrLong {
		t.Errorf("Insert of two bytes = %d", e)
	}
	stores(t, tree, full[1:])
	if e := tree.Insert(7, "x"); e != api.OK {
		t.Errorf("Insert of one byte = %d", e)
	}
	stores(t, tree, full[:7]+"x"+full[8:])
}

func TestP4_3Example(t *testing.T) {
	tree := newTree(t, "abcdef")
	if e := []api.Errno{tree.Delete(1, 3), tree.Insert(2, "X")}; e[0] != api.OK || e[1] != api.OK {
		t.Errorf("edits: %d", e)
	}
	stores(t, tree, "adXef")
	bounded(t, tree, 2)
}

// edits applies random edits to a tree and to a string, and calls a function behind each one.
func edits(t *testing.T, seed uint64, count int, tree *piecetree.Tree, s string, each func(s string, calls int)) {
	t.Helper()
	random := rand.New(rand.NewPCG(seed, 4))
	for calls := 1; calls <= count; calls++ {
		from := random.IntN(len(s) + 1)
		to := from + random.IntN(min(len(s)-from, 5)+1)
		if random.IntN(50) == 0 {
			to = len(s)
		}
		by := []string{"", "a", "b\n", "\n\n", "cdefgh", "\xFF\n"}[random.IntN(6)]
		if e := tree.Replace(from, to, by); e != api.OK {
			t.Fatalf("Replace(%d, %d, %q) = %d", from, to, by, e)
		}
		s = s[:from] + by + s[to:]
		each(s, calls)
	}
}

func TestP4_3ManyEdits(t *testing.T) {
	for seed := range uint64(20) {
		tree := newTree(t, "one\ntwo\n")
		edits(t, seed, 400, tree, "one\ntwo\n", func(s string, calls int) {
			stores(t, tree, s)
			bounded(t, tree, calls)
		})
	}
}

func TestP4_4Snapshot(t *testing.T) {
	for seed := range uint64(10) {
		tree := newTree(t, "first\nsecond")
		var snapshots []*piecetree.Tree
		var texts []string
		edits(t, seed, 60, tree, "first\nsecond", func(s string, calls int) {
			snapshots, texts = append(snapshots, tree.Snapshot()), append(texts, s)
		})
		last := tree.String()
		for i, snapshot := range snapshots {
			stores(t, snapshot, texts[i])
			edits(t, seed+100, 20, snapshot, texts[i], func(s string, calls int) { stores(t, snapshot, s) })
			stores(t, tree, last)
		}
		for i := len(snapshots) - 2; i >= 0; i-- {
			copied := snapshots[i].Snapshot()
			if e := snapshots[i].Delete(0, snapshots[i].Len()); e != api.OK {
				t.Fatalf("Delete = %d", e)
			}
			stores(t, snapshots[i], "")
			if !copied.Equal(copied.Snapshot()) {
				t.Fatal("a snapshot is not equal to its tree")
			}
		}
		stores(t, tree, last)
	}
}

func TestP4_4Equal(t *testing.T) {
	list := slices.Collect(samples.Strings([]string{"a", "b", "\n"}, 3))
	for _, a := range list {
		for _, b := range list {
			for _, x := range trees(t, a) {
				for _, y := range trees(t, b) {
					if x.Equal(y) != (a == b) {
						t.Fatalf("Equal of %q and %q = %v", a, b, a != b)
					}
				}
			}
		}
	}
	if newTree(t, "").Equal(nil) || newTree(t, "a").Equal(nil) {
		t.Error("a tree is equal to the nil tree")
	}
}

func TestP4_5Sequences(t *testing.T) {
	const count = 3000
	for name, place := range map[string]func(i int) (from, to int){
		"end":       func(i int) (int, int) { return i, i },
		"beginning": func(i int) (int, int) { return 0, 0 },
		"middle":    func(i int) (int, int) { return i / 2, i / 2 },
		"both ends": func(i int) (int, int) { return i * (i % 2), i * (i % 2) },
		"scattered": func(i int) (int, int) { return i * 7919 % (i + 1), i * 7919 % (i + 1) },
	} {
		tree := newTree(t, "")
		bounded(t, tree, 0)
		for i := range count {
			from, to := place(i)
			if e := tree.Replace(from, to, "x"); e != api.OK {
				t.Fatalf("%s: Replace(%d, %d) = %d", name, from, to, e)
			}
			bounded(t, tree, i+1)
		}
		bounded(t, tree.Snapshot(), count)
		for i := range count - 1 {
			at := 0
			if i%3 == 0 {
				at = tree.Len() / 2
			}
			if e := tree.Delete(at, at+1); e != api.OK {
				t.Fatalf("%s: Delete(%d) = %d", name, at, e)
			}
			bounded(t, tree, count+i+1)
		}
		if tree.Len() != 1 {
			t.Errorf("%s: %d bytes are left", name, tree.Len())
		}
	}
}

func TestP4_5CutPieces(t *testing.T) {
	tree := newTree(t, strings.Repeat("0123456789", piecetree.MaxBytes/10))
	bounded(t, tree, 0)
	if tree.Pieces() != 1 {
		t.Errorf("a new tree has %d pieces", tree.Pieces())
	}
	calls := 0
	for at := 5; at < tree.Len(); at += 10 {
		if e := tree.Replace(at, at+1, "x"); e != api.OK {
			t.Fatalf("Replace(%d) = %d", at, e)
		}
		calls++
		bounded(t, tree, calls)
	}
	half := tree.Len() / 2
	for _, e := range []api.Errno{tree.Delete(100, half), tree.Delete(0, 50), tree.Delete(60, tree.Len()-1)} {
		if e != api.OK {
			t.Fatalf("Delete = %d", e)
		}
		calls++
		bounded(t, tree, calls)
	}
	if e := tree.Delete(0, tree.Len()); e != api.OK {
		t.Fatalf("Delete = %d", e)
	}
	bounded(t, tree, calls+1)
}

func TestP4_5WideEdits(t *testing.T) {
	const count = 1000
	deep := newTree(t, "")
	for i := range count {
		if e := deep.Insert(i, "x"); e != api.OK {
			t.Fatalf("Insert(%d) = %d", i, e)
		}
	}
	for from := 0; from <= count; from += 3 {
		for size := 1; from+size <= count; size += size/2 + 1 {
			for _, by := range []string{"", "yz"} {
				tree := deep.Snapshot()
				if e := tree.Replace(from, from+size, by); e != api.OK {
					t.Fatalf("Replace(%d, %d) = %d", from, from+size, e)
				}
				bounded(t, tree, count+1)
				if e := tree.Delete(0, min(size, tree.Len())); e != api.OK {
					t.Fatalf("Delete = %d", e)
				}
				bounded(t, tree, count+2)
			}
		}
	}
}

func TestP4_5EmptyEdits(t *testing.T) {
	tree := newTree(t, "abc")
	for at := range 4 {
		if e := tree.Insert(at, ""); e != api.OK {
			t.Errorf("Insert(%d) = %d", at, e)
		}
		if e := tree.Delete(at, at); e != api.OK {
			t.Errorf("Delete(%d) = %d", at, e)
		}
		stores(t, tree, "abc")
		bounded(t, tree, 2*at+2)
	}
	for range 3 {
		if e := tree.Insert(2, strings.Repeat("x", piecetree.MaxBytes)); e != api.ErrLong {
			t.Errorf("Insert = %d", e)
		}
	}
	bounded(t, tree, 8)
}

// checkLines compares the methods of lines with those of strings.
func checkLines(t *testing.T, tree *piecetree.Tree, s string) {
	t.Helper()
	list := strings.Split(s, "\n")
	if tree.Lines() != len(list) {
		t.Fatalf("Lines() of %q = %d", s, tree.Lines())
	}
	start := 0
	for n, line := range list {
		if from, to, e := tree.Line(n); from != start || to != start+len(line) || e != api.OK {
			t.Fatalf("Line(%d) of %q = %d, %d, %d", n, s, from, to, e)
		}
		for at := start; at <= start+len(line); at++ {
			if got, e := tree.LineAt(at); got != n || e != api.OK {
				t.Fatalf("LineAt(%d) of %q = %d, %d; want %d", at, s, got, e, n)
			}
		}
		start += len(line) + 1
	}
	for _, n := range []int{math.MinInt, -1, len(list), len(list) + 1, math.MaxInt} {
		if from, to, e := tree.Line(n); from != 0 || to != 0 || e != api.ErrRange {
			t.Fatalf("Line(%d) of %q = %d, %d, %d", n, s, from, to, e)
		}
	}
	for _, at := range []int{math.MinInt, -1, len(s) + 1, math.MaxInt} {
		if n, e := tree.LineAt(at); n != 0 || e != api.ErrRange {
			t.Fatalf("LineAt(%d) of %q = %d, %d", at, s, n, e)
		}
	}
}

func TestP4_6Lines(t *testing.T) {
	for s := range samples.Strings([]string{"a", "\n", "\r"}, 5) {
		for _, tree := range trees(t, s) {
			checkLines(t, tree, s)
		}
	}
	checkLines(t, new(piecetree.Tree), "")
}

func TestP4_6LinesBehindEdits(t *testing.T) {
	for seed := range uint64(5) {
		tree := newTree(t, "")
		edits(t, seed, 100, tree, "", func(s string, calls int) { checkLines(t, tree, s) })
	}
}

func TestP4_6Example(t *testing.T) {
	tree := newTree(t, "a\n\nb")
	for n, want := range [][2]int{{0, 1}, {2, 2}, {3, 4}} {
		if from, to, e := tree.Line(n); from != want[0] || to != want[1] || e != api.OK {
			t.Errorf("Line(%d) = %d, %d, %d", n, from, to, e)
		}
	}
	for at, want := range map[int]int{1: 0, 2: 1, 4: 2} {
		if n, e := tree.LineAt(at); n != want || e != api.OK {
			t.Errorf("LineAt(%d) = %d, %d", at, n, e)
		}
	}
}

func TestP4_7Restore(t *testing.T) {
	const s = "ab\ncd\n"
	for from := range len(s) + 1 {
		for to := from; to <= len(s); to++ {
			for _, by := range []string{"", "x", "\ny\n"} {
				for _, tree := range trees(t, s) {
					before := tree.Snapshot()
					inserted := []api.Errno{tree.Insert(from, by), tree.Delete(from, from+len(by))}
					if inserted[0] != api.OK || inserted[1] != api.OK || !tree.Equal(before) {
						t.Fatalf("inserting %q at %d and deleting it: %d, %q", by, from, inserted, tree)
					}
					replaced := []api.Errno{tree.Replace(from, to, by), tree.Replace(from, from+len(by), s[from:to])}
					if replaced[0] != api.OK || replaced[1] != api.OK || !tree.Equal(before) {
						t.Fatalf("replacing %d to %d by %q and back: %d, %q", from, to, by, replaced, tree)
					}
					stores(t, tree, s)
				}
			}
		}
	}
}

func TestP4_7EqualToNew(t *testing.T) {
	for seed := range uint64(10) {
		tree := newTree(t, "")
		edits(t, seed, 100, tree, "", func(s string, calls int) {
			fresh := newTree(t, s)
			if !tree.Equal(fresh) || !fresh.Equal(tree) {
				t.Fatalf("the tree is not equal to a new one of %q", s)
			}
			var lines []string
			for n := range tree.Lines() {
				from, to, _ := tree.Line(n)
				line, e := tree.Slice(from, to)
				if e != api.OK {
					t.Fatalf("line %d: %d", n, e)
				}
				lines = append(lines, line)
			}
			if joined := strings.Join(lines, "\n"); joined != s {
				t.Fatalf("the lines of %q are those of %q", s, joined)
			}
		})
	}
}
