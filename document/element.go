package document

import (
	"iter"

	"obelus/api"
	"obelus/run"
)

// flow is a flow of a document, with what is around it.
type flow struct {
	id     int
	items  *[]api.Item
	noted  bool // it is in a note
	tables int  // the number of tables that contain it
}

// element is an item of a flow, or a row or a cell of an item that is a table.
type element struct {
	in   flow
	at   int // the index of the item
	item *api.Item
	row  *api.Row  // nil for an item
	cell *api.Cell // nil for an item and a row
}

func body(d *api.Document) flow { return flow{items: &d.Flow} }

// elements yields the elements of a flow and of the flows in it, in document order.
func (f flow) elements() iter.Seq[element] {
	return func(yield func(element) bool) { f.walk(yield) }
}

// walk hands the same yield down to the flows inside, because a chain of iterators would make deep elements slow.
func (f flow) walk(yield func(element) bool) bool {
	for i := range *f.items {
		e := element{in: f, at: i, item: &(*f.items)[i]}
		if !yield(e) || !e.walkFlow(yield) || !e.walkRows(yield) {
			return false
		}
	}
	return true
}

func (e element) walkFlow(yield func(element) bool) bool {
	inner, has := e.flow()
	return !has || inner.walk(yield)
}

func (e element) walkRows(yield func(element) bool) bool {
	if !e.isTable() {
		return true
	}
	for i := range e.item.Rows {
		row := element{in: e.in, at: e.at, item: e.item, row: &e.item.Rows[i]}
		if !yield(row) {
			return false
		}
		for j := range row.row.Cells {
			cell := row
			cell.cell = &row.row.Cells[j]
			if !yield(cell) || !cell.walkFlow(yield) {
				return false
			}
		}
	}
	return true
}

// flow returns the flow of a note or a cell.
func (e element) flow() (inner flow, has bool) {
	switch {
	case e.cell != nil:
		return flow{e.cell.Id, &e.cell.Flow, e.in.noted, e.in.tables + 1}, true
	case e.isNote():
		return flow{e.item.Id, &e.item.Flow, true, e.in.tables}, true
	}
	return flow{}, false
}

func (e element) isItem() bool  { return e.row == nil }
func (e element) isNote() bool  { return e.isItem() && e.item.Kind == api.Note }
func (e element) isTable() bool { return e.isItem() && e.item.Kind == api.Table }

// id returns where the id of a note, a table or a cell stands, and nil for other elements.
func (e element) id() *int {
	switch {
	case e.cell != nil:
		return &e.cell.Id
	case e.isNote(), e.isTable():
		return &e.item.Id
	}
	return nil
}

func (e element) head() api.Head {
	switch {
	case e.cell != nil:
		return e.cell.Head
	case e.row != nil:
		return e.row.Head
	}
	return e.item.Head
}

// units returns the number of units of an item, without what is in it; none for rows and cells.
func (e element) units() int {
	if !e.isItem() {
		return 0
	}
	count, _ := run.Len((*e.in.items)[e.at : e.at+1])
	return count
}

// place returns the position of the item.
func (e element) place() api.Pos {
	before, _ := run.Len((*e.in.items)[:e.at])
	return api.Pos{Flow: e.in.id, At: before}
}

// flows yields the flows of a document in document order.
func flows(d *api.Document) iter.Seq[flow] {
	return func(yield func(flow) bool) {
		if !yield(body(d)) {
			return
		}
		for e := range body(d).elements() {
			if f, has := e.flow(); has && !yield(f) {
				return
			}
		}
	}
}

// findFlow returns the flow with an id, and find the note, the table or the cell.
func findFlow(d *api.Document, id int) (f flow, found bool) {
	for f := range flows(d) {
		if f.id == id {
			return f, true
		}
	}
	return flow{}, false
}

func find(d *api.Document, id int) (e element, found bool) {
	for e := range body(d).elements() {
		if own := e.id(); own != nil && *own == id {
			return e, true
		}
	}
	return element{}, false
}

// ids returns the ids of the notes, tables and cells.
func ids(d api.Document) map[int]bool {
	found := make(map[int]bool)
	for e := range body(&d).elements() {
		if id := e.id(); id != nil {
			found[*id] = true
		}
	}
	return found
}

// used returns the revisions that occur in marks of elements or in layers of End.
func used(d api.Document) map[int]bool {
	found := make(map[int]bool)
	collect := func(m api.Marks) {
		if m.Ins != 0 {
			found[m.Ins] = true
		}
		for _, del := range m.Dels {
			found[del.Rev] = true
		}
		for _, layer := range m.Layers {
			found[layer.Rev] = true
		}
	}
	for e := range body(&d).elements() {
		collect(e.head().Marks)
	}
	collect(api.Marks{Layers: d.End.Marks.Layers})
	return found
}
