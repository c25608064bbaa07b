package mark

import (
	"slices"

	"obelus/api"
	"obelus/run"
)

// verdict says which revisions are accepted, and which are rejected.
type verdict struct{ accepts, rejects func(rev int) bool }

func always(int) bool { return true }
func never(int) bool  { return false }

// decide returns what becomes of an element, and whether it remains.
func (v verdict) decide(h api.Head) (out api.Head, remains bool) {
	if v.removes(h.Marks) {
		return api.Head{}, false
	}
	out = run.CloneHead(h)
	m := &out.Marks
	if v.accepts(m.Ins) {
		m.Ins, m.Move = 0, 0
	}
	m.Dels = slices.DeleteFunc(m.Dels, func(d api.Del) bool { return v.rejects(d.Rev) })
	m.Layers = nil
	for layers := range groups(h.Marks.Layers) {
		key := layers[0].Key
		left, top := v.decideLayers(layers, present(h, key))
		m.Layers = append(m.Layers, left...)
		out.Props = top.put(out.Props, key)
	}
	return out, true
}

// removes reports whether an element with some marks disappears.
func (v verdict) removes(m api.Marks) bool {
	return m.Ins != 0 && v.rejects(m.Ins) || slices.ContainsFunc(m.Dels, func(d api.Del) bool { return v.accepts(d.Rev) })
}

// decideLayers returns what is left of the layers of a key with a present state, and the state that is then the present one.
func (v verdict) decideLayers(layers []api.Layer, present state) (left []api.Layer, top state) {
	top = before(layers[0])
	for i, layer := range layers {
		next := present
		if i+1 < len(layers) {
			next = before(layers[i+1])
		}
		switch {
		case v.accepts(layer.Rev):
			left, top = nil, next // what is below it is removed as well
		case !v.rejects(layer.Rev):
			layer.Before, layer.Had = top.value, top.has
			left, top = append(left, layer), next
		}
	}
	return left, top
}
