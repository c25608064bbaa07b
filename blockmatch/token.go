package blockmatch

import (
	"cmp"
	"slices"

	"obelus/alignment"
	"obelus/api"
	"obelus/segment"
)

// keys has the keys of the strings of tokens.
type keys map[string]int

// key returns the key of a string, which is the next one if the string has none yet.
func (k keys) key(s string) int {
	if _, known := k[s]; !known {
		k[s] = len(k) + 1
	}
	return k[s]
}

// tokens returns the tokens of a string that count.
func (k keys) tokens(s string) ([]alignment.Token, api.Errno) {
	found, e := segment.Tokens(s)
	if e != api.OK {
		return nil, e
	}
	texts, _ := segment.Texts(s)
	var all []alignment.Token
	for i, token := range found[:min(len(found), alignment.MaxTokens)] {
		all = append(all, alignment.Token{Key: k.key(texts[i]), Weight: weight(token)})
	}
	return all, api.OK
}

func weight(t segment.Token) int {
	if t.Kind == segment.Space {
		return 1
	}
	return min(t.To-t.From, alignment.MaxWeight)
}

// profile is what is known of a string that is compared with many others.
type profile struct {
	tokens, sorted []alignment.Token // in order, and ordered by their keys
	weight         int               // the sum of their weights
}

func newProfile(tokens []alignment.Token) profile {
	p := profile{tokens: tokens, sorted: slices.Clone(tokens)}
	slices.SortFunc(p.sorted, func(a, b alignment.Token) int { return cmp.Compare(a.Key, b.Key) })
	for _, token := range tokens {
		p.weight += token.Weight
	}
	return p
}

// common returns the weight of the tokens that two strings have in common, in any order: no alignment has a greater one.
func (p profile) common(q profile) int {
	sum := 0
	for i, j := 0, 0; i < len(p.sorted) && j < len(q.sorted); {
		switch order := cmp.Compare(p.sorted[i].Key, q.sorted[j].Key); {
		case order < 0:
			i++
		case order > 0:
			j++
		default:
			sum += p.sorted[i].Weight
			i++
			j++
		}
	}
	return sum
}

// similarity returns the similarity of two strings, or 0 if it is less than Threshold. It avoids to align strings that have too little in common, because a flow has up to a million pairs of blocks.
func (p profile) similarity(q profile) int {
	switch {
	case slices.Equal(p.tokens, q.tokens):
		return 1000
	case 2000*p.common(q) < Threshold*(p.weight+q.weight):
		return 0
	}
	score, _ := alignment.Similarity(p.tokens, q.tokens)
	return score
}
