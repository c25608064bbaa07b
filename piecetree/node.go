package piecetree

import (
	"iter"
	"strings"
)

// node is the root of a tree of pieces: those of its left subtree, its own one, and those of its right subtree. The depths of both subtrees differ by at most 1. A node never changes, so that trees can share it; nil is the tree without pieces.
type node struct {
	left, right *node
	piece       piece
	all         sums
}

// sums are the numbers of bytes, line feeds and pieces of a tree, and its depth.
type sums struct{ bytes, feeds, pieces, depth int }

func (n *node) total() sums {
	if n == nil {
		return sums{}
	}
	return n.all
}

// newNode returns the tree of two subtrees, whose depths differ by at most 1, and a piece between them.
func newNode(left *node, p piece, right *node) *node {
	l, r := left.total(), right.total()
	return &node{left, right, p, sums{
		bytes:  l.bytes + len(p.text) + r.bytes,
		feeds:  l.feeds + p.feeds + r.feeds,
		pieces: l.pieces + 1 + r.pieces,
		depth:  max(l.depth, r.depth) + 1,
	}}
}

// joinAround returns the tree of what left stores, a string, and what right stores.
func joinAround(left *node, s string, right *node) *node {
	if s != "" {
		return join(left, newPiece(strings.Clone(s)), right)
	}
	if right == nil {
		return left
	}
	first, rest := takeFirst(right)
	return join(left, first, rest)
}

// join returns the tree of the pieces of left, one more, and those of right.
func join(left *node, p piece, right *node) *node {
	difference := left.total().depth - right.total().depth
	switch {
	case difference > 1:
		return balance(left.left, left.piece, join(left.right, p, right))
	case difference < -1:
		return balance(join(left, p, right.left), right.piece, right.right)
	}
	return newNode(left, p, right)
}

// balance is join for trees whose depths differ by at most 2.
func balance(left *node, p piece, right *node) *node {
	difference := left.total().depth - right.total().depth
	switch {
	case difference > 1:
		return rotateRight(left, p, right)
	case difference < -1:
		return rotateLeft(left, p, right)
	}
	return newNode(left, p, right)
}

// rotateRight is join for a left tree that is deeper by 2.
func rotateRight(left *node, p piece, right *node) *node {
	inner := left.right
	if inner.total().depth <= left.left.total().depth {
		return newNode(left.left, left.piece, newNode(inner, p, right))
	}
	return newNode(newNode(left.left, left.piece, inner.left), inner.piece, newNode(inner.right, p, right))
}

// rotateLeft is join for a right tree that is deeper by 2.
func rotateLeft(left *node, p piece, right *node) *node {
	inner := right.left
	if inner.total().depth <= right.right.total().depth {
		return newNode(newNode(left, p, inner), right.piece, right.right)
	}
	return newNode(newNode(left, p, inner.left), inner.piece, newNode(inner.right, right.piece, right.right))
}

// takeFirst returns the first piece of a tree that has one, and the tree of the others.
func takeFirst(n *node) (first piece, rest *node) {
	if n.left == nil {
		return n.piece, n.right
	}
	first, rest = takeFirst(n.left)
	return first, join(rest, n.piece, n.right)
}

// split returns the trees of what stands before an offset, and behind it.
func split(n *node, at int) (left, right *node) {
	if n == nil {
		return nil, nil
	}
	start := n.left.total().bytes
	end := start + len(n.piece.text)
	switch {
	case at <= start:
		left, right = split(n.left, at)
		return left, join(right, n.piece, n.right)
	case at >= end:
		left, right = split(n.right, at-end)
		return join(n.left, n.piece, left), right
	}
	before, behind := n.piece.cut(at - start)
	return join(n.left, before, nil), join(nil, behind, n.right)
}

// text returns the bytes between two offsets.
func (n *node) text(from, to int) string {
	var text strings.Builder
	text.Grow(to - from)
	for chunk := range n.chunks(from, to) {
		text.WriteString(chunk)
	}
	return text.String()
}

// chunks yields the parts of the pieces between two offsets, in order.
func (n *node) chunks(from, to int) iter.Seq[string] {
	return func(yield func(string) bool) { n.visit(from, to, yield) }
}

// visit is chunks for offsets that can lie outside of the tree; it reports whether yield wants more.
func (n *node) visit(from, to int, yield func(string) bool) bool {
	if n == nil || to <= 0 || from >= n.all.bytes {
		return true
	}
	start := n.left.total().bytes
	end := start + len(n.piece.text)
	if !n.left.visit(from, to, yield) {
		return false
	}
	if first, last := max(from, start), min(to, end); first < last && !yield(n.piece.text[first-start:last-start]) {
		return false
	}
	return n.right.visit(from-end, to-end, yield)
}

// feed returns the offset of the line feed with an index. There must be one.
func (n *node) feed(index int) int {
	before := n.left.total()
	if index < before.feeds {
		return n.left.feed(index)
	}
	index -= before.feeds
	if index < n.piece.feeds {
		return before.bytes + n.piece.feed(index)
	}
	return before.bytes + len(n.piece.text) + n.right.feed(index-n.piece.feeds)
}

// feedsBefore returns the number of line feeds before an offset.
func (n *node) feedsBefore(at int) int {
	if n == nil {
		return 0
	}
	before := n.left.total()
	if at <= before.bytes {
		return n.left.feedsBefore(at)
	}
	at -= before.bytes
	if at < len(n.piece.text) {
		return before.feeds + strings.Count(n.piece.text[:at], lineFeed)
	}
	return before.feeds + n.piece.feeds + n.right.feedsBefore(at-len(n.piece.text))
}
