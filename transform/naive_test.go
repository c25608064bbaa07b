package transform_test

import (
	"fmt"
	"slices"
	"strings"

	"obelus/api"
	"obelus/samples"
	"obelus/splice"
	"obelus/transform"
)

var (
	text, para, note, table = samples.Text, samples.Para, samples.Note, samples.Table
	row, cell, flow, doc    = samples.Row, samples.Cell, samples.Flow, samples.Doc
)

// show returns a string that is equal for equal values, where nil and empty slices are equal.
func show(v any) string { return fmt.Sprintf("%+v", v) }

func isZero(s api.Splice) bool { return show(s) == show(api.Splice{}) }

// items returns the splice that replaces units of a flow, rows one that replaces rows of the table 10, and cells one that replaces cells of a row of it.
func items(id, at int, old, new []api.Item) api.Splice {
	return api.Splice{Kind: api.SpliceItems, Id: id, At: at, Old: api.Piece{Items: old}, New: api.Piece{Items: new}}
}
func rows(at int, old, new []api.Row) api.Splice {
	return api.Splice{Kind: api.SpliceRows, Id: 10, At: at, Old: api.Piece{Rows: old}, New: api.Piece{Rows: new}}
}
func cells(at, sub int, old, new []api.Cell) api.Splice {
	return api.Splice{Kind: api.SpliceCells, Id: 10, At: at, Sub: sub, Old: api.Piece{Cells: old}, New: api.Piece{Cells: new}}
}

// letters returns the splice that replaces letters of the body.
func letters(at int, old, new string) api.Splice {
	one := func(s string) []api.Item {
		if s == "" {
			return nil
		}
		return flow(text(s))
	}
	return items(0, at, one(old), one(new))
}

// rowHead and cellHead return splices of heads in the table 10, and end and settings those of the whole document.
func rowHead(at int) api.Splice {
	return api.Splice{Kind: api.SpliceRow, Id: 10, At: at, New: props(api.KeyHeader)}
}
func cellHead(at, sub int) api.Splice {
	return api.Splice{Kind: api.SpliceCell, Id: 10, At: at, Sub: sub, New: props(api.KeyShade)}
}
func end() api.Splice { return api.Splice{Kind: api.SpliceEnd, New: props(api.KeyTop)} }
func settings() api.Splice {
	return api.Splice{Kind: api.SpliceSet, New: api.Piece{Settings: api.Settings{Vars: []api.Var{{Name: "v"}}}}}
}
func props(key int) api.Piece {
	return api.Piece{Head: api.Head{Props: []api.Prop{{Key: key, Value: 1}}}}
}

// someRows returns rows, and someCells cells, with some ids.
func someRows(first, count int) (l []api.Row) {
	for _, c := range someCells(first, count) {
		l = append(l, row(c))
	}
	return l
}
func someCells(first, count int) (l []api.Cell) {
	for i := range count {
		l = append(l, cell(first+i, text("x")))
	}
	return l
}

// small returns splices of all kinds with small indices and sizes, as they can stand in the document of squares. Ids of what they insert are from first on.
func small(first int) []api.Splice {
	all := []api.Splice{end(), settings()}
	for old := range 3 {
		for new := range 3 {
			for at := range 5 - old {
				all = append(all, letters(at, "abcd"[at:at+old], "xy"[:new]), items(11, at, flow(text("efgh"[at:at+old])), flow(text("xy"[:new]))))
				all = append(all, rows(at, squares().Flow[1].Rows[at:at+old], someRows(first, new)))
				if at+old <= 2 {
					all = append(all, cells(1, at, squares().Flow[1].Rows[1].Cells[at:at+old], someCells(first, new)), cells(2, at, squares().Flow[1].Rows[2].Cells[at:at+old], someCells(first, new)))
				}
			}
		}
	}
	for at := range 4 {
		all = append(all, rowHead(at), cellHead(at, 0), cellHead(at, 1))
	}
	for i := range all { // texts without letters are not in normal form
		all[i].Old.Items = slices.DeleteFunc(all[i].Old.Items, func(item api.Item) bool { return item.Text == "" })
		all[i].New.Items = slices.DeleteFunc(all[i].New.Items, func(item api.Item) bool { return item.Text == "" })
	}
	return all
}

// squares returns a document with four letters and the table 10 of four rows with two cells each; the cell 11 has four letters, too.
func squares() api.Document {
	var l []api.Row
	for i := range 4 {
		l = append(l, row(cell(11+2*i, text("efgh")), cell(12+2*i)))
	}
	return doc(text("abcd"), table(10, l...))
}

// naiveIds returns the ids in a piece, not in order.
func naiveIds(p api.Piece) []int {
	l := slices.Clone(p.Items)
	l = append(l, api.Item{Rows: p.Rows}, api.Item{Rows: []api.Row{{Cells: p.Cells}}})
	var all []int
	for len(l) > 0 {
		item := l[0]
		l = append(l[1:], item.Flow...)
		if item.Kind == api.Note || item.Kind == api.Table {
			all = append(all, item.Id)
		}
		for _, r := range item.Rows {
			for _, c := range r.Cells {
				all = append(all, c.Id)
				l = append(l, c.Flow...)
			}
		}
	}
	return all
}

// naiveIndex returns where an element is behind the replacement of some of a hundred ones: it looks for it.
func naiveIndex(k, a, n, m int) (int, bool) {
	i := strings.IndexRune(replaced(a, n, m), rune(1000+k))
	return len([]rune(replaced(a, n, m)[:max(i, 0)])), i >= 0
}

// replaced returns a hundred elements of which some are replaced by spaces.
func replaced(a, n, m int) string {
	var all []rune
	for i := range 100 {
		all = append(all, rune(1000+i))
	}
	return string(all[:a]) + strings.Repeat(" ", m) + string(all[a+n:])
}

// naiveRange returns where c elements from b on are behind the replacement of n elements from a on by m other ones: they are found by the element before or behind them that is not replaced.
func naiveRange(b, c, a, n, m int, first bool) (int, bool) {
	if c == 0 && n == 0 && a == b {
		if first {
			return b, true
		}
		return b + m, true
	}
	if b < a+n && a < b+c || c == 0 && a < b && b < a+n || n == 0 && b < a && a < b+c {
		return 0, false
	}
	if c > 0 {
		return naiveIndex(b, a, n, m)
	}
	if b <= a { // what is inserted stays behind the element before it
		if b == 0 {
			return 0, true
		}
		k, _ := naiveIndex(b-1, a, n, m)
		return k + 1, true
	}
	return naiveIndex(b, a, n, m)
}

// naiveOver returns a splice over another one by the rules of the chapter, in their order.
func naiveOver(s, t api.Splice, first bool) (api.Splice, api.Errno) {
	for _, x := range []api.Splice{s, t} {
		if e := splice.Check(x); e != api.OK {
			return api.Splice{}, e
		}
	}
	for _, k := range []int{s.At, s.Sub, t.At, t.Sub} {
		if k < 0 || k > 1<<40 {
			return api.Splice{}, api.ErrRange
		}
	}
	out := splice.Clone(s)
	if naiveRules(&out, t, first) {
		return out, api.OK
	}
	return api.Splice{}, api.ErrConflict
}

// naiveRules reports whether two splices agree, and moves the first one.
func naiveRules(s *api.Splice, t api.Splice, first bool) bool {
	of := func(kind int) string { return fmt.Sprint(s.Kind == kind, t.Kind == kind) }
	so, sn := splice.Size(*s)
	to, tn := splice.Size(t)
	ok := true
	common := func(a, b []int) bool {
		return slices.ContainsFunc(a, func(id int) bool { return slices.Contains(b, id) })
	}
	switch { // rules 1 to 6
	case of(api.SpliceSet) == "true true", of(api.SpliceEnd) == "true true":
		return false
	case s.Kind >= api.SpliceEnd, t.Kind >= api.SpliceEnd:
		return true
	case slices.Contains(naiveIds(t.Old), s.Id), slices.Contains(naiveIds(s.Old), t.Id), common(naiveIds(s.New), naiveIds(t.New)):
		return false
	case s.Id != t.Id, of(api.SpliceItems) == "true false", of(api.SpliceItems) == "false true":
		return true
	case of(api.SpliceItems) == "true true", of(api.SpliceRows) == "true true":
		s.At, ok = naiveRange(s.At, so, t.At, to, tn, first)
		return ok
	case t.Kind == api.SpliceRows:
		s.At, ok = naiveIndex(s.At, t.At, to, tn)
		return ok
	case s.Kind == api.SpliceRows:
		_, ok = naiveIndex(t.At, s.At, so, sn)
		return ok
	case s.At != t.At:
		return true
	}
	switch { // rules 7 to 10
	case of(api.SpliceRow) == "true true":
		return false
	case of(api.SpliceRow) != "false false":
		return true
	case of(api.SpliceCells) == "true true":
		s.Sub, ok = naiveRange(s.Sub, so, t.Sub, to, tn, first)
	case of(api.SpliceCell) == "true true":
		ok = s.Sub != t.Sub
	case t.Kind == api.SpliceCells:
		s.Sub, ok = naiveIndex(s.Sub, t.Sub, to, tn)
	default:
		_, ok = naiveIndex(t.Sub, s.Sub, so, sn)
	}
	return ok
}

// naiveLists transforms two lists by the words of the chapter.
func naiveLists(a, b []api.Splice) (aOver, bOver []api.Splice, e api.Errno) {
	b = slices.Clone(b)
	for _, s := range a {
		for i, t := range b {
			over, e := transform.Over(s, t, true)
			if e != api.OK {
				return nil, nil, e
			}
			if b[i], e = transform.Over(t, s, false); e != api.OK {
				return nil, nil, e
			}
			s = over
		}
		aOver = append(aOver, s)
	}
	return aOver, b, api.OK
}
