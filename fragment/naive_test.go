package fragment_test

import (
	"fmt"
	"math/rand/v2"
	"slices"
	"strconv"
	"strings"

	"obelus/api"
	"obelus/document"
	"obelus/fragment"
	"obelus/run"
	"obelus/samples"
	"obelus/stylesheet"
)

var (
	text, para, section, note = samples.Text, samples.Para, samples.Section, samples.Note
	table, row, cell          = samples.Table, samples.Row, samples.Cell
	flow, doc                 = samples.Flow, samples.Doc
)

func comment(id int) api.Item      { return samples.Anchor(api.CommentStart, id) }
func prop(key, value int) api.Prop { return api.Prop{Key: key, Value: value} }
func bold(s string) api.Item       { return text(s, prop(api.KeyBold, 1)) }

// inserted returns an item that a revision has inserted, and marked one with marks of all kinds.
func inserted(item api.Item) api.Item { item.Head.Marks.Ins = 1; return item }
func marked(item api.Item) api.Item {
	item.Head.Marks = api.Marks{Ins: 1, Move: 2, Dels: []api.Del{{Rev: 3}}, Layers: []api.Layer{{Rev: 4, Key: api.KeyBold}}}
	return item
}

// show returns a string that is equal for equal values, where nil and empty slices are equal.
func show(v any) string { return fmt.Sprintf("%+v", v) }

// whole returns the document that has what a fragment has.
func whole(f fragment.Fragment) api.Document {
	return api.Document{Flow: f.Items, Settings: api.Settings{Styles: f.Styles, Lists: f.Lists}}
}

// each calls functions for the heads, and for the ids of notes, tables and cells, in items, in document order.
func each(l []api.Item, head func(h *api.Head), id func(id *int)) {
	for i := range l {
		head(&l[i].Head)
		if l[i].Kind == api.Note || l[i].Kind == api.Table {
			id(&l[i].Id)
		}
		each(l[i].Flow, head, id)
		for j := range l[i].Rows {
			r := &l[i].Rows[j]
			head(&r.Head)
			for k := range r.Cells {
				head(&r.Cells[k].Head)
				id(&r.Cells[k].Id)
				each(r.Cells[k].Flow, head, id)
			}
		}
	}
}

func noHead(*api.Head) {}
func noId(*int)        {}

// without returns items of valid flows from which those of a kind are removed at every depth.
func without(kind int, l []api.Item) []api.Item {
	return run.Clone(samples.Rewrite(0, l, func(_ int, units []api.Item) []api.Item {
		return slices.DeleteFunc(units, func(u api.Item) bool { return u.Kind == kind })
	}, nil))
}

// naiveIds returns the ids in items, and naiveRenew gives them new ones.
func naiveIds(l []api.Item) (ids []int) {
	each(run.Clone(l), noHead, func(id *int) { ids = append(ids, *id) })
	return ids
}
func naiveRenew(l []api.Item, first int) []api.Item {
	l = run.Clone(l)
	each(l, noHead, func(id *int) {
		*id = first
		first++
	})
	return l
}

// naiveStrip returns items of valid flows without anchors and marks.
func naiveStrip(l []api.Item) []api.Item {
	l = without(api.Anchor, l)
	each(l, func(h *api.Head) { h.Marks = api.Marks{} }, noId)
	return run.Normal(l)
}

// naiveCheck returns the first error of a fragment.
func naiveCheck(f fragment.Fragment) api.Errno {
	if e := document.Check(whole(f)); e != api.OK {
		return e
	}
	if strings.Contains(show(f.Items), "{Kind:8 ") {
		return api.ErrFlow
	}
	for i, id := range naiveIds(f.Items) {
		if id != i+1 {
			return api.ErrId
		}
	}
	if show(run.Normal(f.Items)) != show(f.Items) {
		return api.ErrFormat
	}
	return api.OK
}

// valuesOf returns the values of a key in items.
func valuesOf(key int, l []api.Item) map[int]bool {
	values := make(map[int]bool)
	each(run.Clone(l), func(h *api.Head) {
		for _, p := range h.Props {
			if p.Key == key {
				values[p.Value] = true
			}
		}
	}, noId)
	return values
}

// naiveStyles returns the styles of items: it adds chains and next styles until there are no more.
func naiveStyles(l []api.Item, styles []api.Style) []api.Style {
	ids := valuesOf(api.KeyParaStyle, l)
	for id := range valuesOf(api.KeyCharStyle, l) {
		ids[id] = true
	}
	for before := -1; before != len(ids); {
		before = len(ids)
		for _, style := range styles {
			if !ids[style.Id] {
				continue
			}
			chain, _ := stylesheet.Chain(styles, style.Id)
			for _, id := range append(chain, style.Next) {
				ids[id] = true
			}
		}
	}
	return slices.DeleteFunc(slices.Clone(styles), func(s api.Style) bool { return !ids[s.Id] })
}

// naiveCopy returns the fragment of a range of a plain document.
func naiveCopy(d api.Document, r api.Range) fragment.Fragment {
	l, _ := document.Flow(d, r.Flow)
	l = naiveRenew(naiveStrip(samples.Units(l)[r.From:r.To]), 1)
	values := valuesOf(api.KeyList, l)
	return fragment.Fragment{
		Items: l, Styles: naiveStyles(l, d.Settings.Styles),
		Lists: slices.DeleteFunc(slices.Clone(d.Settings.Lists), func(list api.List) bool { return !values[list.Id] }),
	}
}

// isNoted reports whether a flow is, or lies in, the flow of a note of some items.
func isNoted(l []api.Item, id int, noted bool) bool {
	for _, item := range l {
		if item.Kind == api.Note && (item.Id == id || isNoted(item.Flow, id, true)) {
			return true
		}
		for _, r := range item.Rows {
			for _, c := range r.Cells {
				if noted && c.Id == id || isNoted(c.Flow, id, noted) {
					return true
				}
			}
		}
	}
	return false
}

// naiveValue returns what becomes of the value of a property of a fragment in a document, or 0 if the property is removed.
func naiveValue(s api.Settings, f fragment.Fragment, p api.Prop) int {
	for _, style := range f.Styles {
		for _, other := range s.Styles {
			if style.Id == p.Value && p.Key != api.KeyList && style.Kind == other.Kind && style.Name == other.Name {
				return other.Id
			}
		}
	}
	for _, list := range f.Lists {
		for _, other := range s.Lists {
			if list.Id == p.Value && p.Key == api.KeyList && show(list.Levels) == show(other.Levels) {
				return other.Id
			}
		}
	}
	return 0
}

// naiveAdapt adapts a valid fragment by the steps of the chapter.
func naiveAdapt(d api.Document, target int, f fragment.Fragment, first int) []api.Item {
	l := run.Clone(f.Items)
	each(l, func(h *api.Head) {
		var props []api.Prop
		for _, p := range h.Props {
			if (p.Key == api.KeyParaStyle || p.Key == api.KeyCharStyle || p.Key == api.KeyList) && p.Value != 0 {
				if p.Value = naiveValue(d.Settings, f, p); p.Value == 0 {
					continue
				}
			}
			props = append(props, p)
		}
		h.Props = props
	}, noId)
	for i := range l {
		if target != 0 && l[i].Kind == api.Section {
			l[i] = para()
		}
	}
	if isNoted(d.Flow, target, false) {
		l = without(api.Note, l)
	}
	return run.Normal(naiveRenew(l, first))
}

// naiveText returns the text of items.
func naiveText(l []api.Item) (s string) {
	for _, u := range samples.Units(l) {
		switch u.Kind {
		case api.Text:
			s += u.Text
		case api.Para, api.Section:
			s += "\n"
		case api.Break:
			s += []string{"", "\u000B", "\u000C", "\u0009"}[u.Code]
		case api.Field:
			s += "{" + u.Text + "}"
		case api.Note:
			s += "[" + naiveText(u.Flow) + "]"
		case api.Table:
			for _, r := range u.Rows {
				for i, c := range r.Cells {
					s += []string{"", "\u0009"}[min(i, 1)] + naiveText(c.Flow)
				}
				s += "\n"
			}
		}
	}
	return s
}

// many calls a function for many plain documents.
func many(count int, seed uint64, f func(r *rand.Rand, d api.Document)) {
	r := rand.New(rand.NewPCG(21, seed))
	for range count {
		f(r, samples.Plain(r.IntN))
	}
}

// anyRange returns a range of units of a flow of a document; it is often all of the body.
func anyRange(r *rand.Rand, d api.Document) api.Range {
	flows := document.Flows(d)
	id := flows[r.IntN(len(flows))]
	l, _ := document.Flow(d, id)
	a, b := r.IntN(len(samples.Units(l))+1), r.IntN(len(samples.Units(l))+1)
	if r.IntN(2) == 0 {
		return api.Range{Flow: 0, From: 0, To: len(samples.Units(d.Flow))}
	}
	return api.Range{Flow: id, From: min(a, b), To: max(a, b)}
}

// other returns a document in which styles and lists have other ids than in samples, some are missing, and some have the same names or levels; its elements refer to none of them.
func other(r *rand.Rand) api.Document {
	d := samples.Plain(r.IntN)
	each(d.Flow, func(h *api.Head) {
		h.Props = slices.DeleteFunc(h.Props, func(p api.Prop) bool {
			return p.Key == api.KeyParaStyle || p.Key == api.KeyCharStyle || p.Key == api.KeyList
		})
	}, noId)
	d.Settings.Styles, d.Settings.Lists = nil, nil
	for i, name := range []string{"Strong", "Heading", "Other", "Code", "Normal"} {
		for _, kind := range []int{api.CharStyle, api.ParaStyle} {
			if r.IntN(2) == 0 {
				d.Settings.Styles = append(d.Settings.Styles, api.Style{Id: 2*i + kind, Kind: kind, Name: name})
			}
		}
	}
	levels := []api.Level{{Format: api.Decimal, Start: 1, Template: "%1."}, {Format: api.LowerAlpha, Template: "%1-%2", Restart: 1}}
	for i := range r.IntN(7) {
		kinds := [][]api.Level{levels, {{Format: api.Bullet, Template: "%1"}}, levels[:1], {{Format: api.Bullet, Template: strconv.Itoa(i)}}}
		d.Settings.Lists = append(d.Settings.Lists, api.List{Id: i + 2, Levels: slices.Clone(kinds[r.IntN(4)])})
	}
	return d
}
