package dependency

import (
	"iter"

	"obelus/api"
	"obelus/run"
)

// element is an element of a document: its head, the number of the element that contains it, and whether it disappears with the last one that it contains. Elements are numbered from 1 on; 0 stands for the document.
type element struct {
	head    api.Head
	in      int
	isFrame bool
}

// elements yields the elements of a document in document order, End at last, with how often their marks count.
func elements(d api.Document) iter.Seq2[element, int] {
	return func(yield func(e element, weight int) bool) {
		w := walker{yield: yield}
		if w.walk(d.Flow, 0) {
			w.visit(element{head: d.End}, 1)
		}
	}
}

// list returns the elements of a document behind one that stands for the document.
func list(d api.Document) []element {
	all := []element{{}}
	for e := range elements(d) {
		all = append(all, e)
	}
	return all
}

// walker numbers the elements while it yields them.
type walker struct {
	yield func(e element, weight int) bool
	last  int
}

func (w *walker) visit(e element, weight int) (number int, goesOn bool) {
	w.last++
	return w.last, w.yield(e, weight)
}

func (w *walker) walk(l []api.Item, in int) bool {
	for i, item := range l {
		weight, _ := run.Len(l[i : i+1])
		number, goesOn := w.visit(element{item.Head, in, item.Kind == api.Table}, weight)
		if !goesOn || !w.walk(item.Flow, number) || !w.walkRows(item.Rows, number) {
			return false
		}
	}
	return true
}

func (w *walker) walkRows(l []api.Row, in int) bool {
	for _, row := range l {
		number, goesOn := w.visit(element{row.Head, in, true}, 1)
		if !goesOn || !w.walkCells(row.Cells, number) {
			return false
		}
	}
	return true
}

func (w *walker) walkCells(l []api.Cell, in int) bool {
	for _, cell := range l {
		number, goesOn := w.visit(element{cell.Head, in, false}, 1)
		if !goesOn || !w.walk(cell.Flow, number) {
			return false
		}
	}
	return true
}

// counts returns the number of the marks of each revision.
func counts(d api.Document) map[int]int {
	all := make(map[int]int)
	for e, weight := range elements(d) {
		m := e.head.Marks
		if m.Ins != 0 {
			all[m.Ins] += weight
		}
		for _, del := range m.Dels {
			all[del.Rev] += weight
		}
		for _, layer := range m.Layers {
			all[layer.Rev] += weight
		}
	}
	return all
}
