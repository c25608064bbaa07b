package track

import (
	"obelus/api"
	"obelus/mark"
)

// eachHead calls a function for the heads of the items of a flow and of all that they contain.
func eachHead(l []api.Item, f func(h api.Head)) {
	for _, item := range l {
		f(item.Head)
		eachHead(item.Flow, f)
		for _, row := range item.Rows {
			f(row.Head)
			for _, cell := range row.Cells {
				f(cell.Head)
				eachHead(cell.Flow, f)
			}
		}
	}
}

// change returns what becomes of the head of an element, and whether the element remains.
type change func(h api.Head) (out api.Head, remains bool, e api.Errno)

// deletion returns the change that marks elements as deleted, and formatting the one that sets the key of the edit.
func (t tracker) deletion(move int) change {
	return func(h api.Head) (api.Head, bool, api.Errno) { return mark.Delete(h, t.rev, move) }
}
func (t tracker) formatting() change {
	return func(h api.Head) (api.Head, bool, api.Errno) {
		out, e := mark.Set(h, t.rev, api.Prop{Key: t.Key, Value: t.Value}, t.Clear)
		return out, true, e
	}
}

// noting returns a function that changes heads in their places and reports whether their elements remain; first becomes the first error.
func noting(c change, first *api.Errno) func(h *api.Head) bool {
	return func(h *api.Head) bool {
		out, remains, e := c(*h)
		if *first == api.OK {
			*first = e
		}
		*h = out
		return remains
	}
}

// rewrite returns a list in which the heads of the chosen elements are changed, without the elements that disappear.
func rewrite[T any](l []T, chosen []bool, c change, head func(one *T) *api.Head) ([]T, api.Errno) {
	var left []T
	var first api.Errno
	apply := noting(c, &first)
	for i, one := range l {
		if !chosen[i] || apply(head(&one)) {
			left = append(left, one)
		}
	}
	return left, first
}

func ofItem(i *api.Item) *api.Head { return &i.Head }
func ofRow(r *api.Row) *api.Head   { return &r.Head }
func ofCell(c *api.Cell) *api.Head { return &c.Head }

// inserted returns copies of elements that the revision inserts.
func inserted[T any](l []T, rev int, head func(one *T) *api.Head) []T {
	var all []T
	for _, one := range l {
		h := head(&one)
		*h = mark.Insert(*h, rev, 0)
		all = append(all, one)
	}
	return all
}
