package compare

import "obelus/api"

// counts are numbers of elements with marks.
type counts struct{ inserted, deleted, formatted int }

// add counts an element with a head.
func (c *counts) add(h api.Head) {
	if h.Marks.Ins != 0 {
		c.inserted++
	}
	if len(h.Marks.Dels) > 0 {
		c.deleted++
	}
	if len(h.Marks.Layers) > 0 {
		c.formatted++
	}
}
