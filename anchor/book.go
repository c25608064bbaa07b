package anchor

import (
	"obelus/api"
	"obelus/document"
	"obelus/run"
)

// key is what an anchor has in common with those that repeat it.
type key struct{ code, id int }

func keyOf(a Anchor) key { return key{a.Code, a.Id} }

// book has the anchors of a document in document order, with the indices of those that count.
type book struct {
	all   []Anchor
	first map[key]int    // the first anchor with each code and id
	named map[string]int // the first start of a bookmark with each name
}

func read(d api.Document) book {
	b := book{List(d), make(map[key]int), make(map[string]int)}
	for i, a := range b.all {
		if _, repeated := b.first[keyOf(a)]; repeated {
			continue
		}
		b.first[keyOf(a)] = i
		if _, taken := b.named[a.Name]; a.Code == api.BookmarkStart && !taken {
			b.named[a.Name] = i
		}
	}
	return b
}

// visit calls a function for each anchor of a flow and of the flows in it, in document order.
func visit(flow int, l []api.Item, f func(Anchor)) {
	at := 0
	for i, item := range l {
		switch item.Kind {
		case api.Anchor:
			f(Anchor{Code: item.Code, Id: item.Id, Name: item.Text, At: api.Pos{Flow: flow, At: at}})
		case api.Note:
			visit(item.Id, item.Flow, f)
		case api.Table:
			for _, row := range item.Rows {
				for _, cell := range row.Cells {
					visit(cell.Id, cell.Flow, f)
				}
			}
		}
		count, _ := run.Len(l[i : i+1])
		at += count
	}
}

func isStart(code int) bool    { return code == api.BookmarkStart || code == api.CommentStart }
func isBookmark(code int) bool { return code == api.BookmarkStart || code == api.BookmarkEnd }

// otherEnd returns the code of the anchors at the other end of a bookmark or comment.
func otherEnd(code int) int {
	switch code {
	case api.BookmarkStart:
		return api.BookmarkEnd
	case api.BookmarkEnd:
		return api.BookmarkStart
	case api.CommentStart:
		return api.CommentEnd
	}
	return api.CommentStart
}

// partner returns the anchor at the other end of a bookmark or comment.
func (b book) partner(a Anchor) (other Anchor, has bool) {
	i, has := b.first[key{otherEnd(a.Code), a.Id}]
	if !has {
		return Anchor{}, false
	}
	return b.all[i], true
}

// spans returns the ranges that begin at the starts with a code.
func (b book) spans(code int) []Span {
	var all []Span
	for i, a := range b.all {
		if a.Code == code && b.first[keyOf(a)] == i {
			all = append(all, b.span(a))
		}
	}
	return all
}

func (b book) span(start Anchor) Span {
	from := api.Pos{Flow: start.At.Flow, At: start.At.At + 1}
	span := Span{Id: start.Id, From: from, To: from}
	if start.Code == api.BookmarkStart {
		span.Name = start.Name
	}
	if end, has := b.partner(start); has && end.At.Flow == from.Flow && end.At.At >= from.At {
		span.To = end.At
	}
	return span
}

// around returns the ids of the ranges that contain a position.
func around(l []Span, p api.Pos) []int {
	var ids []int
	for _, span := range l {
		if span.From.Flow == p.Flow && span.From.At <= p.At && p.At <= span.To.At {
			ids = append(ids, span.Id)
		}
	}
	return ids
}

// problem returns the code of what is wrong with an anchor, or 0; the comments with some ids are known.
func (b book) problem(index int, known map[int]bool) int {
	a := b.all[index]
	other, has := b.partner(a)
	switch {
	case b.first[keyOf(a)] != index:
		return Repeated
	case !isStart(a.Code) && !has:
		return NoStart
	case !isStart(a.Code):
		return 0
	case a.Code == api.BookmarkStart && b.named[a.Name] != index:
		return SameName
	case !has:
		return NoEnd
	case other.At.Flow != a.At.Flow:
		return OtherFlow
	case other.At.At < a.At.At:
		return Reversed
	case a.Code == api.CommentStart && !known[a.Id]:
		return NoComment
	}
	return 0
}

// checkRange returns the error of a range of units.
func checkRange(d api.Document, r api.Range) api.Errno {
	l, found := document.Flow(d, r.Flow)
	if !found {
		return api.ErrNotFound
	}
	if length, _ := run.Len(l); r.From < 0 || r.To < r.From || r.To > length {
		return api.ErrRange
	}
	return api.OK
}

// greatest returns the greatest id of an anchor of a bookmark, or 0.
func greatest(d api.Document) int {
	id := 0
	visit(0, d.Flow, func(a Anchor) {
		if isBookmark(a.Code) {
			id = max(id, a.Id)
		}
	})
	return id
}

// put returns the edit that puts an anchor before a unit.
func put(flow, at int, anchor api.Item) api.Edit {
	return api.Edit{Kind: api.EditPutAnchor, Flow: flow, At: at, Items: []api.Item{anchor}}
}
