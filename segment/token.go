package segment

import (
	"iter"

	"obelus/api"
	"obelus/codepoint"
	"obelus/grapheme"
)

// text is a string as its code points and its clusters.
type text struct {
	points   []int
	clusters []cluster
}

// cluster is the units from from on, before to, with the class of the first one.
type cluster struct{ class, from, to int }

func read(s string) (text, api.Errno) {
	points, e := codepoint.Points(s)
	if e != api.OK {
		return text{}, e
	}
	boundaries, e := grapheme.Boundaries(s)
	if e != api.OK {
		return text{}, e
	}
	table := classTable()
	clusters := make([]cluster, 0, len(boundaries))
	for i := 1; i < len(boundaries); i++ {
		from, to := boundaries[i-1], boundaries[i]
		clusters = append(clusters, cluster{classIn(table, points[from]), from, to})
	}
	return text{points, clusters}, api.OK
}

// tokens yields the tokens in order.
func (t text) tokens() iter.Seq[Token] {
	return func(yield func(Token) bool) {
		for i := 0; i < len(t.clusters); {
			kind, end := t.tokenAt(i)
			if !yield(Token{kind, t.clusters[i].from, t.clusters[end-1].to}) {
				return
			}
			i = end
		}
	}
}

// tokenAt returns the kind of the token that begins with a cluster, and the cluster that follows it.
func (t text) tokenAt(i int) (kind, end int) {
	switch t.clusters[i].class {
	case Letter, Digit:
		return t.wordAt(i)
	case Blank, Glue:
		for end = i + 1; end < len(t.clusters) && isSpace(t.clusters[end].class); end++ {
		}
		return Space, end
	case Newline:
		return Control, i + 1
	case Ideograph:
		return Ideogram, i + 1
	}
	return Sign, i + 1
}

// wordAt is tokenAt for a token that begins with a Letter or a Digit.
func (t text) wordAt(i int) (kind, end int) {
	kind = Number
	for end = i; end < len(t.clusters) && (isWordy(t.clusters[end].class) || t.joins(end)); end++ {
		if t.clusters[end].class == Letter {
			kind = Word
		}
	}
	return kind, end
}

// joins reports whether a cluster is a Connect between two Letters, or an Infix between two Digits.
func (t text) joins(i int) bool {
	if i == 0 || i+1 == len(t.clusters) {
		return false
	}
	before, behind := t.clusters[i-1].class, t.clusters[i+1].class
	switch t.clusters[i].class {
	case Connect:
		return before == Letter && behind == Letter
	case Infix:
		return before == Digit && behind == Digit
	}
	return false
}

func isWordy(class int) bool { return class == Letter || class == Digit }
func isSpace(class int) bool { return class == Blank || class == Glue }
