package document

import (
	"cmp"
	"slices"

	"obelus/api"
	"obelus/codepoint"
	"obelus/leveltext"
	"obelus/property"
	"obelus/stylesheet"
)

// checkTable returns the first error of a list of at most some elements whose keys are right and increase, and which are right themselves.
func checkTable[T any, K cmp.Ordered](l []T, most int, key func(T) K, checkKey func(K) api.Errno, check func(T) api.Errno) api.Errno {
	if len(l) > most {
		return api.ErrLimit
	}
	for i, element := range l {
		own := key(element)
		if e := checkKey(own); e != api.OK {
			return e
		}
		if i > 0 && own == key(l[i-1]) {
			return api.ErrDuplicate
		}
		if i > 0 && own < key(l[i-1]) {
			return api.ErrOrder
		}
		if e := check(element); e != api.OK {
			return e
		}
	}
	return api.OK
}

func checkLists(l []api.List) api.Errno {
	id := func(list api.List) int { return list.Id }
	return checkTable(l, api.MaxLists, id, checkId, func(list api.List) api.Errno { return leveltext.CheckLevels(list.Levels) })
}

func checkComments(l []api.Comment) api.Errno {
	before := make(map[int]bool, len(l))
	id := func(c api.Comment) int { return c.Id }
	return checkTable(l, api.MaxNotes, id, checkId, func(c api.Comment) api.Errno {
		if c.Parent != 0 && !before[c.Parent] {
			return api.ErrNotFound
		}
		before[c.Id] = true
		if e := checkStamp(c.Author, c.Time); e != api.OK {
			return e
		}
		return checkText(c.Text)
	})
}

func checkVars(l []api.Var) api.Errno {
	name := func(v api.Var) string { return v.Name }
	return checkTable(l, api.MaxVars, name, checkName, func(v api.Var) api.Errno { return checkText(v.Value) })
}

func checkRevs(l []api.Rev) api.Errno {
	id := func(r api.Rev) int { return r.Id }
	return checkTable(l, api.MaxRevs, id, checkId, func(r api.Rev) api.Errno { return checkStamp(r.Author, r.Time) })
}

func checkId(id int) api.Errno {
	if id < 1 || id > api.MaxId {
		return api.ErrId
	}
	return api.OK
}

func checkName(name string) api.Errno {
	if !codepoint.IsName(name) {
		return api.ErrName
	}
	return api.OK
}

func checkStamp(author string, time int) api.Errno {
	switch {
	case author == "" || len(author) > api.MaxAuthor || !codepoint.Valid(author):
		return api.ErrAuthor
	case time < 0 || time > api.MaxTime:
		return api.ErrTime
	}
	return api.OK
}

// checkText returns the error of the text of a comment, or of the value of a variable.
func checkText(s string) api.Errno {
	switch {
	case !codepoint.Valid(s):
		return api.ErrUTF8
	case len(s) > api.MaxText:
		return api.ErrLong
	}
	return api.OK
}

func equalSettings(a, b api.Settings) bool {
	sameList := func(x, y api.List) bool { return x.Id == y.Id && slices.Equal(x.Levels, y.Levels) }
	return stylesheet.Equal(a.Styles, b.Styles) && slices.EqualFunc(a.Lists, b.Lists, sameList) &&
		slices.Equal(a.Comments, b.Comments) && slices.Equal(a.Vars, b.Vars)
}

func cloneSettings(s api.Settings) api.Settings {
	copied := api.Settings{
		Styles:   slices.Clone(s.Styles),
		Lists:    slices.Clone(s.Lists),
		Comments: slices.Clone(s.Comments),
		Vars:     slices.Clone(s.Vars),
	}
	for i := range copied.Styles {
		copied.Styles[i].Props = property.Clone(copied.Styles[i].Props)
	}
	for i := range copied.Lists {
		copied.Lists[i].Levels = slices.Clone(copied.Lists[i].Levels)
	}
	return copied
}
