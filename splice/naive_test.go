package splice_test

import (
	"fmt"
	"math/rand/v2"
	"slices"
	"strings"
	"unicode/utf8"

	"obelus/api"
	"obelus/document"
	"obelus/property"
	"obelus/run"
	"obelus/samples"
)

var (
	text, para, note, table = samples.Text, samples.Para, samples.Note, samples.Table
	row, cell, flow, doc    = samples.Row, samples.Cell, samples.Flow, samples.Doc
)

func comment(id int) api.Item      { return samples.Anchor(api.CommentStart, id) }
func prop(key, value int) api.Prop { return api.Prop{Key: key, Value: value} }
func bold(s string) api.Item       { return text(s, prop(api.KeyBold, 1)) }

// by returns an item that a revision has inserted.
func by(rev int, item api.Item) api.Item { item.Head.Marks.Ins = rev; return item }

// items returns the splice that replaces units of the body.
func items(at int, old, new []api.Item) api.Splice {
	return api.Splice{Kind: api.SpliceItems, At: at, Old: api.Piece{Items: old}, New: api.Piece{Items: new}}
}

// letters returns the splice that replaces letters of the body.
func letters(at int, old, new string) api.Splice {
	one := func(s string) []api.Item {
		if s == "" {
			return nil
		}
		return flow(text(s))
	}
	return items(at, one(old), one(new))
}

// show returns a string that is equal for equal values, where nil and empty slices are equal.
func show(v any) string { return fmt.Sprintf("%+v", v) }

// isZero reports whether a document has nothing.
func isZero(d api.Document) bool { return show(d) == show(api.Document{}) }

// chapter is the table of the chapter: the constants of the kinds, in their order, with their fields.
const chapter = `
| SpliceItems | Id, At, Old.Items, New.Items |
| SpliceRows | Id, At, Old.Rows, New.Rows |
| SpliceCells | Id, At, Sub, Old.Cells, New.Cells |
| SpliceRow | Id, At, Old.Head, New.Head |
| SpliceCell | Id, At, Sub, Old.Head, New.Head |
| SpliceEnd | Old.Head, New.Head |
| SpliceSet | Old.Settings, New.Settings |
`

// fieldsOf returns the fields of a kind; known is false if there is no such kind.
func fieldsOf(kind int) (fields []string, known bool) {
	lines := strings.Split(strings.TrimSpace(chapter), "\n")
	if kind < 1 || kind > len(lines) {
		return nil, false
	}
	return strings.Split(strings.Split(strings.Trim(lines[kind-1], "| "), " | ")[1], ", "), true
}

// filledFields returns the fields of a splice that are not zero.
func filledFields(s api.Splice) []string {
	var all []string
	add := func(name string, value, zero any) {
		if show(value) != show(zero) {
			all = append(all, name)
		}
	}
	add("Id", s.Id, 0)
	add("At", s.At, 0)
	add("Sub", s.Sub, 0)
	for name, p := range map[string]api.Piece{"Old.": s.Old, "New.": s.New} {
		add(name+"Items", p.Items, []api.Item{})
		add(name+"Rows", p.Rows, []api.Row{})
		add(name+"Cells", p.Cells, []api.Cell{})
		add(name+"Head", p.Head, api.Head{})
		add(name+"Settings", p.Settings, api.Settings{})
	}
	return all
}

// isNormal reports whether a flow is equal to its normal form.
func isNormal(l []api.Item) bool { return show(run.Normal(l)) == show(l) }

// naiveCheck returns the first error of a splice by the rules of the chapter.
func naiveCheck(s api.Splice) api.Errno {
	fields, known := fieldsOf(s.Kind)
	if !known {
		return api.ErrKind
	}
	for _, field := range filledFields(s) {
		if !slices.Contains(fields, field) {
			return api.ErrFormat
		}
	}
	for _, p := range []api.Piece{s.Old, s.New} {
		for _, item := range p.Items {
			if item.Kind == api.Text && !utf8.ValidString(item.Text) {
				return api.ErrUTF8
			}
		}
		cells := slices.Clone(p.Cells)
		for _, r := range p.Rows {
			if len(r.Cells) == 0 {
				return api.ErrFormat
			}
			cells = append(cells, r.Cells...)
		}
		if !isNormal(p.Items) || slices.ContainsFunc(cells, func(c api.Cell) bool { return !isNormal(c.Flow) }) {
			return api.ErrFormat
		}
	}
	return api.OK
}

// naiveSize returns the number of elements of a piece of a kind of splices.
func naiveSize(kind int, p api.Piece) int {
	if kind > api.SpliceCells {
		return 1
	}
	return len(samples.Units(p.Items)) + len(p.Rows) + len(p.Cells)
}

// join returns lists one after another.
func join[T any](lists ...[]T) []T { return slices.Concat(lists...) }

// normalRows returns rows whose cells are in normal form.
func normalRows(l []api.Row) []api.Row {
	var all []api.Row
	for _, r := range l {
		all = append(all, api.Row{Head: r.Head, Cells: normalCells(r.Cells)})
	}
	return all
}
func normalCells(l []api.Cell) []api.Cell {
	var all []api.Cell
	for _, c := range l {
		all = append(all, api.Cell{Id: c.Id, Head: c.Head, Flow: run.Normal(c.Flow)})
	}
	return all
}

// naivePut replaces elements of a list from an index on that are shown as old, or returns an error.
func naivePut[T any](l []T, at int, old, new []T, normal func([]T) []T) ([]T, api.Errno) {
	if at < 0 || at > len(l) || len(old) > len(l)-at {
		return l, api.ErrRange
	}
	if show(normal(l[at:at+len(old)])) != show(old) {
		return l, api.ErrConflict
	}
	return join(l[:at], new, l[at+len(old):]), api.OK
}

// naivePutHead replaces a head.
func naivePutHead(h *api.Head, s api.Splice) api.Errno {
	if show(*h) != show(s.Old.Head) {
		return api.ErrConflict
	}
	*h = s.New.Head
	return api.OK
}

// naiveRows returns the rows of a table behind a splice.
func naiveRows(l []api.Row, s api.Splice) ([]api.Row, api.Errno) {
	if s.Kind == api.SpliceRows {
		l, e := naivePut(l, s.At, s.Old.Rows, s.New.Rows, normalRows)
		if e == api.OK && len(l) == 0 {
			e = api.ErrEmpty
		}
		return l, e
	}
	if s.At < 0 || s.At >= len(l) {
		return l, api.ErrRange
	}
	r := &l[s.At]
	if s.Kind == api.SpliceRow {
		return l, naivePutHead(&r.Head, s)
	}
	if s.Kind == api.SpliceCell {
		if s.Sub < 0 || s.Sub >= len(r.Cells) {
			return l, api.ErrRange
		}
		return l, naivePutHead(&r.Cells[s.Sub].Head, s)
	}
	cells, e := naivePut(r.Cells, s.Sub, s.Old.Cells, s.New.Cells, normalCells)
	r.Cells = cells
	if e == api.OK && len(cells) == 0 {
		e = api.ErrEmpty
	}
	return l, e
}

// naiveReplace returns the document behind a splice that is well formed, with its old revisions, or an error.
func naiveReplace(d api.Document, s api.Splice) (api.Document, api.Errno) {
	e := api.ErrNotFound
	switch s.Kind {
	case api.SpliceItems:
		d = samples.WithFlow(d, s.Id, func(units []api.Item) []api.Item {
			// texts are compared as units, because old ones can begin or end within a text
			var l []api.Item
			l, e = naivePut(units, s.At, samples.Units(s.Old.Items), samples.Units(s.New.Items), func(l []api.Item) []api.Item { return samples.Units(run.Normal(l)) })
			return l
		})
	case api.SpliceEnd:
		e = naivePutHead(&d.End, s)
	case api.SpliceSet:
		e = api.OK
		if show(d.Settings) != show(s.Old.Settings) {
			e = api.ErrConflict
		}
		d.Settings = s.New.Settings
	default:
		d = samples.WithTable(d, s.Id, func(l []api.Row) []api.Row {
			l, e = naiveRows(l, s)
			return l
		})
	}
	return d, e
}

// naiveApply returns the document behind a splice, or the first error, by the rules of the chapter.
func naiveApply(d api.Document, s api.Splice, more []api.Rev) (api.Document, api.Errno) {
	if e := naiveCheck(s); e != api.OK {
		return api.Document{}, e
	}
	for _, r := range more {
		if slices.ContainsFunc(d.Revs, func(q api.Rev) bool { return q.Id == r.Id && q != r }) {
			return api.Document{}, api.ErrRevision
		}
	}
	out, e := naiveReplace(d, s)
	if e != api.OK {
		return api.Document{}, e
	}
	out.Revs = naiveRevs(out, join(d.Revs, more))
	if e := document.Check(out); e != api.OK {
		return api.Document{}, e
	}
	return document.Normal(out), api.OK
}

// naiveRevs returns the first revision with each id that a document uses, in the order of the ids.
func naiveRevs(d api.Document, all []api.Rev) []api.Rev {
	used := document.Used(d)
	for _, id := range join([]int{d.End.Marks.Ins}, func() (ids []int) {
		for _, del := range d.End.Marks.Dels {
			ids = append(ids, del.Rev)
		}
		return ids
	}()) {
		used = append(used, id)
	}
	var revs []api.Rev
	for _, r := range all {
		if slices.Contains(used, r.Id) && !slices.ContainsFunc(revs, func(q api.Rev) bool { return q.Id == r.Id }) {
			revs = append(revs, r)
		}
	}
	slices.SortFunc(revs, func(a, b api.Rev) int { return a.Id - b.Id })
	return revs
}

// naiveRanges returns the longest ranges of numbers from one on, before another one, for which a condition holds.
func naiveRanges(from, to int, is func(int) bool) [][2]int {
	var all [][2]int
	for i := from; i < to; i++ {
		if !is(i) {
			continue
		}
		if last := len(all) - 1; last >= 0 && all[last][1] == i {
			all[last][1]++
		} else {
			all = append(all, [2]int{i, i + 1})
		}
	}
	return all
}

// naiveRenumber gives new ids to the notes, tables and cells in items.
func naiveRenumber(l []api.Item, next *int) []api.Item {
	fresh := func() int { *next++; return *next - 1 }
	l = run.Clone(l)
	for i := range l {
		if l[i].Kind == api.Note || l[i].Kind == api.Table {
			l[i].Id = fresh()
		}
		l[i].Flow = naiveRenumber(l[i].Flow, next)
		for _, r := range l[i].Rows {
			for j := range r.Cells {
				r.Cells[j].Id = fresh()
				r.Cells[j].Flow = naiveRenumber(r.Cells[j].Flow, next)
			}
		}
	}
	return l
}

// naiveSet returns the units behind the format of some of them.
func naiveSet(units []api.Item, e api.Edit) []api.Item {
	units = run.Clone(units)
	for i := range units {
		if i < e.At || i >= e.At+e.Count || !property.Fits(units[i].Kind, e.Key) {
			continue
		}
		head := &units[i].Head
		if e.Clear {
			head.Props = property.Clear(head.Props, e.Key)
		} else {
			head.Props = property.Set(head.Props, e.Key, e.Value)
		}
	}
	return units
}

// naiveFromEdit returns the splices of an edit that is possible in a plain document.
func naiveFromEdit(d api.Document, e api.Edit) []api.Splice {
	d = document.Normal(d)
	l, _ := document.Flow(d, e.Flow)
	units := samples.Units(l)
	item := func(id, at int, old, new []api.Item) api.Splice {
		return api.Splice{Kind: api.SpliceItems, Id: id, At: at, Old: api.Piece{Items: run.Normal(old)}, New: api.Piece{Items: run.Normal(new)}}
	}
	var all []api.Splice
	switch e.Kind {
	case api.EditInsert, api.EditPutAnchor:
		return []api.Splice{item(e.Flow, e.At, nil, e.Items)}
	case api.EditDropAnchor:
		return []api.Splice{item(e.Flow, e.At, units[e.At:e.At+1], nil)}
	case api.EditFormat:
		formatted := naiveSet(units, e)
		for _, r := range naiveRanges(0, len(units), func(i int) bool { return show(units[i]) != show(formatted[i]) }) {
			all = append(all, item(e.Flow, r[0], units[r[0]:r[1]], formatted[r[0]:r[1]]))
		}
	case api.EditDelete, api.EditMove:
		for _, r := range naiveRanges(e.At, e.At+e.Count, func(i int) bool { return units[i].Kind != api.Anchor }) {
			all = join([]api.Splice{item(e.Flow, r[0], units[r[0]:r[1]], nil)}, all)
		}
		if e.Kind == api.EditMove {
			all = append(all, naiveArrival(units, e, item))
		}
	case api.EditFormatEnd:
		end := naiveSet(flow(api.Item{Kind: api.Section, Head: d.End}), api.Edit{Count: 1, Key: e.Key, Value: e.Value, Clear: e.Clear})[0].Head
		all = []api.Splice{{Kind: api.SpliceEnd, Old: api.Piece{Head: d.End}, New: api.Piece{Head: end}}}
	case api.EditSettings:
		all = []api.Splice{{Kind: api.SpliceSet, Old: api.Piece{Settings: d.Settings}, New: api.Piece{Settings: e.Settings}}}
	default:
		all = []api.Splice{naiveFromTable(d, e)}
	}
	return slices.DeleteFunc(all, func(s api.Splice) bool { return show(s.Old) == show(s.New) })
}

// naiveArrival returns the splice that inserts moved units.
func naiveArrival(units []api.Item, e api.Edit, item func(id, at int, old, new []api.Item) api.Splice) api.Splice {
	at := e.ToAt
	var moved []api.Item
	for i := e.At; i < e.At+e.Count; i++ {
		if units[i].Kind == api.Anchor {
			continue
		}
		moved = append(moved, units[i])
		if e.To == e.Flow && i < e.ToAt {
			at--
		}
	}
	next := e.Fresh
	return item(e.To, at, nil, naiveRenumber(moved, &next))
}

// naiveFromTable returns the splice of an edit of a table.
func naiveFromTable(d api.Document, e api.Edit) api.Splice {
	item, _ := document.Table(d, e.Flow)
	rows := item.Rows
	kinds := map[int]int{api.EditInsertRows: api.SpliceRows, api.EditDeleteRows: api.SpliceRows, api.EditInsertCells: api.SpliceCells, api.EditDeleteCells: api.SpliceCells, api.EditFormatRow: api.SpliceRow, api.EditFormatCell: api.SpliceCell}
	s := api.Splice{Kind: kinds[e.Kind], Id: e.Flow, At: e.At, Sub: e.Sub}
	head := func(kind int, h api.Head) api.Head {
		props := property.Set(h.Props, e.Key, e.Value)
		if e.Clear {
			props = property.Clear(h.Props, e.Key)
		}
		return api.Head{Props: props}
	}
	switch e.Kind {
	case api.EditInsertRows:
		s.New.Rows = normalRows(e.Rows)
	case api.EditInsertCells:
		s.New.Cells = normalCells(e.Cells)
	case api.EditFormatRow:
		s.Old.Head, s.New.Head = rows[e.At].Head, head(property.Row, rows[e.At].Head)
	case api.EditFormatCell:
		c := rows[e.At].Cells[e.Sub]
		s.Old.Head, s.New.Head = c.Head, head(property.Cell, c.Head)
	case api.EditDeleteRows, api.EditDeleteCells:
		first, count := e.At, e.Count
		if e.Kind == api.EditDeleteCells && e.Count < len(rows[e.At].Cells) {
			s.Old.Cells = rows[e.At].Cells[e.Sub : e.Sub+e.Count]
			break
		}
		if e.Kind == api.EditDeleteCells {
			count = 1
		}
		s = api.Splice{Kind: api.SpliceRows, Id: e.Flow, At: first, Old: api.Piece{Rows: rows[first : first+count]}}
		if count == len(rows) {
			place, _ := document.Place(d, e.Flow)
			s = api.Splice{Kind: api.SpliceItems, Id: place.Flow, At: place.At, Old: api.Piece{Items: flow(item)}}
		}
	}
	return s
}

// naiveRest returns the numbers of the first and of the last elements that two lists have in common.
func naiveRest[T any](a, b []T) (p, q int) {
	for p < len(a) && p < len(b) && show(a[p]) == show(b[p]) {
		p++
	}
	for q < len(a)-p && q < len(b)-p && show(a[len(a)-1-q]) == show(b[len(b)-1-q]) {
		q++
	}
	return p, q
}

// naiveBetween returns the splices between two documents.
func naiveBetween(a, b api.Document) ([]api.Splice, api.Errno) {
	a, b = document.Normal(a), document.Normal(b)
	var all []api.Splice
	if show(a.End) != show(b.End) {
		all = append(all, api.Splice{Kind: api.SpliceEnd, Old: api.Piece{Head: a.End}, New: api.Piece{Head: b.End}})
	}
	all = append(all, naiveFlows(0, a.Flow, b.Flow)...)
	if show(a.Settings) == show(b.Settings) {
		return all, api.OK
	}
	if len(all) > 0 {
		return nil, api.ErrConflict
	}
	return []api.Splice{{Kind: api.SpliceSet, Old: api.Piece{Settings: a.Settings}, New: api.Piece{Settings: b.Settings}}}, api.OK
}

func naiveFlows(id int, a, b []api.Item) []api.Splice {
	x, y := samples.Units(a), samples.Units(b)
	p, q := naiveRest(x, y)
	x, y = x[p:len(x)-q], y[p:len(y)-q]
	if len(x)+len(y) == 0 {
		return nil
	}
	if len(x) == 1 && len(y) == 1 && x[0].Kind == y[0].Kind && x[0].Id == y[0].Id && x[0].Code == y[0].Code && show(x[0].Head) == show(y[0].Head) {
		if x[0].Kind == api.Note {
			return naiveFlows(x[0].Id, x[0].Flow, y[0].Flow)
		}
		if x[0].Kind == api.Table {
			return naiveTables(x[0].Id, x[0].Rows, y[0].Rows)
		}
	}
	return []api.Splice{{Kind: api.SpliceItems, Id: id, At: p, Old: api.Piece{Items: run.Normal(x)}, New: api.Piece{Items: run.Normal(y)}}}
}

func naiveTables(id int, a, b []api.Row) []api.Splice {
	p, q := naiveRest(a, b)
	a, b = a[p:len(a)-q], b[p:len(b)-q]
	if len(a) != 1 || len(b) != 1 || show(a[0].Head) != show(b[0].Head) {
		return []api.Splice{{Kind: api.SpliceRows, Id: id, At: p, Old: api.Piece{Rows: a}, New: api.Piece{Rows: b}}}
	}
	x, y := a[0].Cells, b[0].Cells
	first, last := naiveRest(x, y)
	x, y = x[first:len(x)-last], y[first:len(y)-last]
	if len(x) == 1 && len(y) == 1 && x[0].Id == y[0].Id && show(x[0].Head) == show(y[0].Head) {
		return naiveFlows(x[0].Id, x[0].Flow, y[0].Flow)
	}
	return []api.Splice{{Kind: api.SpliceCells, Id: id, At: p, Sub: first, Old: api.Piece{Cells: x}, New: api.Piece{Cells: y}}}
}

// naiveJoin returns the join of two splices that can be run one after another, if they touch.
func naiveJoin(s, t api.Splice) (api.Splice, bool) {
	if s.Kind != t.Kind || s.Id != t.Id {
		return api.Splice{}, false
	}
	joined := api.Splice{Kind: s.Kind, Id: s.Id, At: s.At, Sub: s.Sub, Old: s.Old, New: t.New}
	if s.Kind > api.SpliceCells {
		return joined, s.At == t.At && s.Sub == t.Sub
	}
	a, p := s.At, t.At
	if s.Kind == api.SpliceCells {
		if s.At != t.At {
			return api.Splice{}, false
		}
		a, p = s.Sub, t.Sub
		joined.Sub = min(a, p)
	} else {
		joined.At = min(a, p)
	}
	n, m := naiveSize(s.Kind, s.New), naiveSize(t.Kind, t.Old)
	if p > a+n || p+m < a {
		return api.Splice{}, false
	}
	joined.Old.Items = run.Normal(naiveOld(a, n, p, m, samples.Units(s.Old.Items), samples.Units(t.Old.Items)))
	joined.New.Items = run.Normal(naiveNew(a, n, p, m, samples.Units(s.New.Items), samples.Units(t.New.Items)))
	joined.Old.Rows, joined.New.Rows = naiveOld(a, n, p, m, s.Old.Rows, t.Old.Rows), naiveNew(a, n, p, m, s.New.Rows, t.New.Rows)
	joined.Old.Cells, joined.New.Cells = naiveOld(a, n, p, m, s.Old.Cells, t.Old.Cells), naiveNew(a, n, p, m, s.New.Cells, t.New.Cells)
	return joined, true
}

// naiveOld returns what the join of two splices removes, and naiveNew what it inserts, word for word.
func naiveOld[T any](a, n, p, m int, s, t []T) []T {
	if len(t) == 0 {
		return s
	}
	var first, last []T
	if p < a {
		first = t[:a-p]
	}
	if more := (p + m) - (a + n); more > 0 {
		last = t[len(t)-more:]
	}
	return join(first, s, last)
}
func naiveNew[T any](a, n, p, m int, s, t []T) []T {
	if len(s) == 0 {
		return t
	}
	var first, last []T
	if p > a {
		first = s[:p-a]
	}
	if more := (a + n) - (p + m); more > 0 {
		last = s[len(s)-more:]
	}
	return join(first, t, last)
}

// naiveCompact joins the splices of a list.
func naiveCompact(l []api.Splice) []api.Splice {
	var all []api.Splice
	for _, s := range l {
		last := len(all) - 1
		if last < 0 {
			all = append(all, s)
		} else if joined, touch := naiveJoin(all[last], s); touch {
			all[last] = joined
		} else {
			all = append(all, s)
		}
		if last = len(all) - 1; show(all[last].Old) == show(all[last].New) {
			all = all[:last]
		}
	}
	return all
}

// many calls a function for many documents with marks and splices that are often possible.
func many(count int, seed uint64, f func(r *rand.Rand, d api.Document, s api.Splice)) {
	r := rand.New(rand.NewPCG(18, seed))
	for range count {
		d := samples.Document(r.IntN)
		f(r, d, samples.Splice(r.IntN, d, samples.Revs()))
	}
}
