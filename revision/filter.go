package revision

import "obelus/api"

// condition says whether a revision is selected.
type condition func(api.Rev) bool

// condition returns the condition under which a filter selects a revision.
func (f Filter) condition() condition {
	return and(
		oneOf(f.Authors, func(r api.Rev) string { return r.Author }),
		func(r api.Rev) bool { return r.Time >= f.From },
		func(r api.Rev) bool { return f.To == 0 || r.Time <= f.To },
		oneOf(f.Ids, func(r api.Rev) int { return r.Id }),
	)
}

// and returns the condition that all of some conditions hold.
func and(conditions ...condition) condition {
	return func(r api.Rev) bool {
		for _, holds := range conditions {
			if !holds(r) {
				return false
			}
		}
		return true
	}
}

// oneOf returns the condition that a field is in a list; if the list is empty, it always holds.
func oneOf[T comparable](l []T, field func(api.Rev) T) condition {
	permitted := setOf(l)
	return func(r api.Rev) bool { return len(permitted) == 0 || permitted[field(r)] }
}

func setOf[T comparable](l []T) map[T]bool {
	set := make(map[T]bool, len(l))
	for _, one := range l {
		set[one] = true
	}
	return set
}
