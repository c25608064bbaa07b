package segment

// noBreak is the kind of an offset at which a line can't end; noCluster is the class of a cluster that does not exist.
const (
	noBreak   = 0
	noCluster = -1
)

// place is an offset between two clusters: the classes of the two clusters before it, and that of the cluster behind it.
type place struct{ earlier, before, behind int }

// placeBefore returns the place before a cluster that is not the first one.
func (t text) placeBefore(i int) place {
	earlier := noCluster
	if i > 1 {
		earlier = t.clusters[i-2].class
	}
	return place{earlier, t.clusters[i-1].class, t.clusters[i].class}
}

// breakKind returns the kind that the first rule gives that applies.
func breakKind(rules []func(place) (int, bool), p place) int {
	for _, rule := range rules {
		if kind, applies := rule(p); applies {
			return kind
		}
	}
	return noBreak
}

// breakRules returns the rules for breaks in their order; each one says which kind it gives, and whether it applies.
func breakRules() []func(place) (int, bool) {
	return []func(place) (int, bool){
		func(p place) (int, bool) { return Must, p.before == Newline },
		func(p place) (int, bool) { return noBreak, p.behind == Newline || p.behind == Blank },
		func(p place) (int, bool) { return noBreak, p.before == Glue || p.behind == Glue },
		func(p place) (int, bool) { return May, p.before == Blank },
		func(p place) (int, bool) { return Hyphenated, p.before == Soft },
		func(p place) (int, bool) { return noBreak, p.before == Open || clings(p.behind) },
		func(p place) (int, bool) { return May, p.before == Dash },
		func(p place) (int, bool) {
			return May, p.before == Hyphen && p.behind == Letter && isWordy(p.earlier)
		},
		func(p place) (int, bool) { return May, p.before == Ideograph || p.behind == Ideograph },
	}
}

// clings reports whether a class stays on the line of what stands before it (rule 6).
func clings(class int) bool {
	switch class {
	case Soft, Close, Infix, Connect, Hyphen, Dash:
		return true
	}
	return false
}
