package mark

import (
	"cmp"
	"iter"
	"slices"

	"obelus/api"
	"obelus/property"
)

// state is a state of a key: a value, or that the property is not set.
type state struct {
	value int
	has   bool
}

// present returns the state of a key behind all layers, and before the one from which a layer leads.
func present(h api.Head, key int) state {
	value, has := property.Get(h.Props, key)
	return state{value, has}
}
func before(l api.Layer) state { return state{l.Before, l.Had} }

// put returns properties in which a key has the state.
func (s state) put(l []api.Prop, key int) []api.Prop {
	if !s.has {
		return property.Clear(l, key)
	}
	return property.Set(l, key, s.value)
}

// groups yields the layers of each key.
func groups(l []api.Layer) iter.Seq[[]api.Layer] {
	return func(yield func([]api.Layer) bool) {
		for start := 0; start < len(l); {
			end := start + 1
			for end < len(l) && l[end].Key == l[start].Key {
				end++
			}
			if !yield(l[start:end]) {
				return
			}
			start = end
		}
	}
}

// span returns where the layers of a key start and end in a list, or where they belong if there are none.
func span(l []api.Layer, key int) (start, end int) {
	start, _ = slices.BinarySearchFunc(l, key, func(l api.Layer, key int) int { return cmp.Compare(l.Key, key) })
	end = start
	for end < len(l) && l[end].Key == key {
		end++
	}
	return start, end
}

// stack returns the layers of marks behind a change to a state; top is what the change would be as a layer of its own.
func stack(m api.Marks, top api.Layer, to state) ([]api.Layer, api.Errno) {
	layers := slices.Clone(m.Layers)
	start, end := span(layers, top.Key)
	switch {
	case top.Rev == 0 || top.Rev == m.Ins && start == end:
		return layers, api.OK
	case start < end && layers[end-1].Rev == top.Rev:
		if before(layers[end-1]) == to {
			layers = slices.Delete(layers, end-1, end)
		}
		return layers, api.OK
	case len(layers) >= api.MaxLayers:
		return nil, api.ErrLimit
	}
	return slices.Insert(layers, end, top), api.OK
}
