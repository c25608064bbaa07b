package grid

import (
	"obelus/api"
	"obelus/property"
	"obelus/run"
)

// put sets a property of a cell, or removes it where the value is the default.
func put(c *api.Cell, key, value int) {
	if preset, _ := property.Default(key); value == preset {
		c.Head.Props = property.Clear(c.Head.Props, key)
	} else {
		c.Head.Props = property.Set(c.Head.Props, key, value)
	}
}

// newCells returns empty cells with a number of ids from fresh on.
func newCells(fresh, count int) []api.Cell {
	l := make([]api.Cell, count)
	for i := range l {
		l[i].Id = fresh + i
	}
	return l
}

func clone(rows []api.Row) []api.Row {
	copies := make([]api.Row, len(rows))
	for i, r := range rows {
		copies[i] = run.CloneRow(r)
	}
	return copies
}
