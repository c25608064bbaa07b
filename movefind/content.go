package movefind

import (
	"obelus/api"
	"obelus/fragment"
	"obelus/mark"
	"obelus/run"
)

// content returns what units with the same content have in common: the item without the marks of its head, with ids from 1 on.
func content(item api.Item) api.Item {
	item.Head = mark.Plain(item.Head)
	renewed, _ := fragment.Renew([]api.Item{item}, 1)
	return renewed[0]
}

// sign is a part of a content that can be looked up.
type sign struct {
	kind, code int
	text       string
}

// contents are different contents, which are numbered.
type contents struct {
	list    []api.Item
	indices map[sign][]int
}

// number returns the number of the content of a unit.
func (c *contents) number(item api.Item) int {
	own := content(item)
	s := sign{own.Kind, own.Code, own.Text}
	for _, i := range c.indices[s] {
		if run.EqualItem(c.list[i], own) {
			return i
		}
	}
	next := len(c.list)
	c.list = append(c.list, own)
	c.indices[s] = append(c.indices[s], next)
	return next
}
