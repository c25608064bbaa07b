package stylesheet

import (
	"slices"

	"obelus/api"
	"obelus/property"
)

// check returns the first error of the list, but that of its length.
func (s sheet) check() api.Errno {
	if e := s.checkFields(); e != api.OK {
		return e
	}
	if e := s.checkLinks(); e != api.OK {
		return e
	}
	if !s.chainsEnd() {
		return api.ErrCycle
	}
	return api.OK
}

// checkFields checks what each style has without regard to bases and next styles.
func (s sheet) checkFields() api.Errno {
	type title struct {
		kind int
		name string
	}
	seen := make(map[title]bool, len(s.styles))
	last := 0
	for _, style := range s.styles {
		own := title{style.Kind, style.Name}
		switch {
		case style.Id < 1 || style.Id > api.MaxId:
			return api.ErrId
		case style.Id == last:
			return api.ErrDuplicate
		case style.Id < last:
			return api.ErrOrder
		case style.Kind != api.ParaStyle && style.Kind != api.CharStyle:
			return api.ErrKind
		case !IsName(style.Name):
			return api.ErrName
		case seen[own]:
			return api.ErrDuplicate
		}
		if e := checkProps(style.Kind, style.Props); e != api.OK {
			return e
		}
		seen[own] = true
		last = style.Id
	}
	return api.OK
}

// checkProps returns the error of the properties of a style of a kind.
func checkProps(kind int, l []api.Prop) api.Errno {
	if slices.ContainsFunc(l, func(p api.Prop) bool { return p.Key == api.KeyParaStyle || p.Key == api.KeyCharStyle }) {
		return api.ErrKey
	}
	if kind == api.CharStyle {
		return property.Check(api.Text, l)
	}
	return property.Check(api.Para, l)
}

// checkLinks checks that bases and next styles are there and of the right kind.
func (s sheet) checkLinks() api.Errno {
	for _, style := range s.styles {
		if style.Base != 0 && !s.has(style.Kind, style.Base) {
			return api.ErrStyle
		}
		if style.Next != 0 && (style.Kind == api.CharStyle || !s.has(api.ParaStyle, style.Next)) {
			return api.ErrStyle
		}
	}
	return api.OK
}

// chainsEnd reports whether no chain comes back to one of its styles.
func (s sheet) chainsEnd() bool {
	walks := make([]int, len(s.styles)) // the walk that has found the style, from 1 on
	for i, style := range s.styles {
		walk := i + 1
		for at := range s.chain(style.Id) {
			if walks[at] == walk {
				return false
			}
			if walks[at] != 0 { // an earlier walk has found the end from here
				break
			}
			walks[at] = walk
		}
	}
	return true
}
