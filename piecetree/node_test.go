package piecetree

import (
	"math/rand/v2"
	"strings"
	"testing"

	"obelus/api"
)

// sound checks that the subtrees of all nodes are balanced, and that their sums are right: the bound of P4.5 for the depth rests on this.
func sound(t *testing.T, n *node) sums {
	t.Helper()
	if n == nil {
		return sums{}
	}
	left, right := sound(t, n.left), sound(t, n.right)
	if left.depth-right.depth > 1 || right.depth-left.depth > 1 {
		t.Fatalf("the subtrees have %d and %d levels", left.depth, right.depth)
	}
	if n.piece.text == "" || n.piece.feeds != strings.Count(n.piece.text, "\n") {
		t.Fatalf("the piece %q has %d line feeds", n.piece.text, n.piece.feeds)
	}
	want := sums{
		bytes:  left.bytes + len(n.piece.text) + right.bytes,
		feeds:  left.feeds + n.piece.feeds + right.feeds,
		pieces: left.pieces + 1 + right.pieces,
		depth:  max(left.depth, right.depth) + 1,
	}
	if n.all != want {
		t.Fatalf("the sums are %v; want %v", n.all, want)
	}
	return want
}

func TestP4_5Balance(t *testing.T) {
	for seed := range uint64(10) {
		random := rand.New(rand.NewPCG(seed, 45))
		tree, _ := New("one\ntwo")
		for range 500 {
			from := random.IntN(tree.Len() + 1)
			if e := tree.Insert(from, "a\n"); e != api.OK {
				t.Fatalf("Insert(%d) = %d", from, e)
			}
			sound(t, tree.root)
		}
		for tree.Len() > 0 {
			cut := tree.Snapshot()
			from := random.IntN(cut.Len())
			to := from + random.IntN(cut.Len()-from) + 1
			if e := cut.Replace(from, to, "xyz"); e != api.OK {
				t.Fatalf("Replace(%d, %d) = %d", from, to, e)
			}
			sound(t, cut.root)
			to = min(to, from+20)
			if e := tree.Delete(from, to); e != api.OK {
				t.Fatalf("Delete(%d, %d) = %d", from, to, e)
			}
			sound(t, tree.root)
		}
	}
}

func TestP4_5Rotations(t *testing.T) {
	for deep := 0; deep < 40; deep += 3 {
		for shallow := 0; shallow < 40; shallow += 4 {
			left, right := &Tree{}, &Tree{}
			for range deep {
				left.Insert(left.Len(), "a")
				right.Insert(0, "b")
			}
			for range shallow {
				left.Insert(0, "c")
				right.Insert(right.Len(), "d")
			}
			for at := range left.Len() + 1 {
				before, behind := split(left.root, at)
				sound(t, before)
				sound(t, behind)
				sound(t, joinAround(before, "e", right.root))
				sound(t, joinAround(right.root, "", behind))
			}
		}
	}
}
