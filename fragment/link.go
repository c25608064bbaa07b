package fragment

import (
	"slices"

	"obelus/api"
	"obelus/stylesheet"
)

// styleLink returns the property with which elements refer to a style, and listLink that with which they refer to a list.
func styleLink(style api.Style) api.Prop {
	if style.Kind == api.CharStyle {
		return api.Prop{Key: api.KeyCharStyle, Value: style.Id}
	}
	return api.Prop{Key: api.KeyParaStyle, Value: style.Id}
}
func listLink(list api.List) api.Prop { return api.Prop{Key: api.KeyList, Value: list.Id} }

// isLink reports whether a property refers to a style or a list.
func isLink(p api.Prop) bool {
	switch p.Key {
	case api.KeyParaStyle, api.KeyCharStyle, api.KeyList:
		return p.Value != 0
	}
	return false
}

// linksIn returns the properties with which items, at any depth, refer to styles and lists.
func linksIn(l []api.Item) map[api.Prop]bool {
	links := make(map[api.Prop]bool)
	rebuild(l, anyItem, func(h api.Head) api.Head {
		for _, p := range h.Props {
			if isLink(p) {
				links[p] = true
			}
		}
		return h
	}, sameId)
	return links
}

// stylesOf returns the styles of a document to which links refer, with those that these need, and listsOf the lists.
func stylesOf(links map[api.Prop]bool, styles []api.Style) []api.Style {
	byId := make(map[int]api.Style, len(styles))
	var open []int
	for _, style := range styles {
		byId[style.Id] = style
		if links[styleLink(style)] {
			open = append(open, style.Id)
		}
	}
	needed := make(map[int]bool)
	for len(open) > 0 {
		last := len(open) - 1
		style, found := byId[open[last]]
		open = open[:last]
		if found && !needed[style.Id] {
			needed[style.Id] = true
			open = append(open, style.Base, style.Next)
		}
	}
	var all []api.Style
	for _, style := range styles {
		if needed[style.Id] {
			style.Props = slices.Clone(style.Props)
			all = append(all, style)
		}
	}
	return all
}
func listsOf(links map[api.Prop]bool, lists []api.List) []api.List {
	var all []api.List
	for _, list := range lists {
		if links[listLink(list)] {
			list.Levels = slices.Clone(list.Levels)
			all = append(all, list)
		}
	}
	return all
}

// linksTo returns for the links of a fragment the ids of the same styles and lists in a document, where it has them.
func linksTo(s api.Settings, f Fragment) map[api.Prop]int {
	links := make(map[api.Prop]int)
	for _, style := range f.Styles {
		if i, found := stylesheet.FindName(s.Styles, style.Kind, style.Name); found {
			links[styleLink(style)] = s.Styles[i].Id
		}
	}
	for _, list := range f.Lists {
		same := func(other api.List) bool { return slices.Equal(other.Levels, list.Levels) }
		if i := slices.IndexFunc(s.Lists, same); i >= 0 {
			links[listLink(list)] = s.Lists[i].Id
		}
	}
	return links
}

// relink returns a function for rebuild that replaces the links in a head; a link that leads nowhere is removed.
func relink(links map[api.Prop]int) func(h api.Head) api.Head {
	return func(h api.Head) api.Head {
		var props []api.Prop
		for _, p := range h.Props {
			if isLink(p) {
				id, found := links[p]
				if !found {
					continue
				}
				p.Value = id
			}
			props = append(props, p)
		}
		return api.Head{Props: props}
	}
}
