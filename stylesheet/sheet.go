package stylesheet

import (
	"iter"
	"slices"

	"obelus/api"
	"obelus/property"
)

// sheet is a list of styles with the indices of their ids.
type sheet struct {
	styles  []api.Style
	indices map[int]int
}

// open checks a list, and returns the sheet of it.
func open(l []api.Style) (sheet, api.Errno) {
	if len(l) > api.MaxStyles {
		return sheet{}, api.ErrLimit
	}
	s := sheet{l, indices(l)}
	if e := s.check(); e != api.OK {
		return sheet{}, e
	}
	return s, api.OK
}

// openAt is open for a list that must have a style with an id; it returns its index as well.
func openAt(l []api.Style, id int) (sheet, int, api.Errno) {
	s, e := open(l)
	if e != api.OK {
		return sheet{}, 0, e
	}
	at, found := s.indices[id]
	if !found {
		return sheet{}, 0, api.ErrNotFound
	}
	return s, at, api.OK
}

// indices returns the index of the first style with each id.
func indices(l []api.Style) map[int]int {
	first := make(map[int]int, len(l))
	for i, style := range slices.Backward(l) {
		first[style.Id] = i
	}
	return first
}

// has reports whether there is a style of a kind with an id.
func (s sheet) has(kind, id int) bool {
	i, found := s.indices[id]
	return found && s.styles[i].Kind == kind
}

// chain yields the indices of the styles of the chain of a style; none for 0. It goes on for ever on a cycle.
func (s sheet) chain(id int) iter.Seq[int] {
	return func(yield func(int) bool) {
		i, found := s.indices[id]
		for found && yield(i) {
			i, found = s.indices[s.styles[i].Base]
		}
	}
}

// effective returns the effective properties of a style; none for 0.
func (s sheet) effective(id int) []api.Prop {
	var props []api.Prop
	for i := range s.chain(id) {
		props = property.Merge(s.styles[i].Props, props)
	}
	return props
}

// inherited returns the effective properties of the style of a kind that an element with some properties has.
func (s sheet) inherited(kind int, own []api.Prop) ([]api.Prop, api.Errno) {
	key := api.KeyParaStyle
	if kind == api.CharStyle {
		key = api.KeyCharStyle
	}
	id := property.Value(own, key)
	if id != 0 && !s.has(kind, id) {
		return nil, api.ErrStyle
	}
	return s.effective(id), api.OK
}

// pick returns the properties of a group.
func pick(group int, l []api.Prop) []api.Prop {
	return slices.DeleteFunc(property.Clone(l), func(p api.Prop) bool {
		other, _ := property.Group(p.Key)
		return other != group
	})
}

// over returns the properties that a style must have so that it has the values of props where it inherits others.
func over(inherited, props []api.Prop) []api.Prop {
	var own []api.Prop
	for _, c := range property.Diff(inherited, props) {
		value := c.New
		if !c.Has {
			value, _ = property.Default(c.Key)
		}
		if c.Has || value != c.Old {
			own = append(own, api.Prop{Key: c.Key, Value: value})
		}
	}
	return own
}

// clone returns a copy of a list and of the properties of its styles.
func clone(l []api.Style) []api.Style {
	copied := slices.Clone(l)
	for i := range copied {
		copied[i].Props = property.Clone(copied[i].Props)
	}
	return copied
}
