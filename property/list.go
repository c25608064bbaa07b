package property

import (
	"cmp"
	"iter"
	"slices"

	"obelus/api"
)

// search returns the index of a key in a list, or the one at which it belongs.
func search(l []api.Prop, key int) (index int, found bool) {
	return slices.BinarySearchFunc(l, key, func(p api.Prop, key int) int { return cmp.Compare(p.Key, key) })
}

// put is Set, but writes to the memory of its list.
func put(l []api.Prop, key, value int) []api.Prop {
	i, found := search(l, key)
	if !found {
		l = slices.Insert(l, i, api.Prop{Key: key})
	}
	l[i].Value = value
	return l
}

// drop is Clear, but writes to the memory of its list.
func drop(l []api.Prop, key int) []api.Prop {
	i, found := search(l, key)
	if !found {
		return l
	}
	return slices.Delete(l, i, i+1)
}

// pairs yields what two lists have for each key that at least one of them has, as the change from a to b; nothing changes if both have the same value.
func pairs(a, b []api.Prop) iter.Seq[Change] {
	return func(yield func(Change) bool) {
		a, b := a, b
		for len(a) > 0 || len(b) > 0 {
			var c Change
			if len(b) == 0 || len(a) > 0 && a[0].Key <= b[0].Key {
				c.Key, c.Old, c.Had = a[0].Key, a[0].Value, true
				a = a[1:]
			}
			if len(b) > 0 && (!c.Had || b[0].Key == c.Key) {
				c.Key, c.New, c.Has = b[0].Key, b[0].Value, true
				b = b[1:]
			}
			if !yield(c) {
				return
			}
		}
	}
}

// fits reports whether a list has what the change replaces.
func (c Change) fits(l []api.Prop) bool {
	value, has := Get(l, c.Key)
	return has == c.Had && (!has || value == c.Old)
}
