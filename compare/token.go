package compare

import (
	"strconv"
	"strings"

	"obelus/alignment"
	"obelus/api"
	"obelus/flows"
	"obelus/paragraph"
	"obelus/run"
	"obelus/segment"
)

// blocksOf returns the units of each block of a divisible flow.
func blocksOf(l []api.Item) [][]api.Item {
	var blocks [][]api.Item
	units := flows.Units(l)
	found, _ := paragraph.Blocks(l)
	for _, b := range found {
		blocks = append(blocks, units[b.From:b.To])
	}
	return blocks
}

// keys has the keys of tokens by what equal ones have in common.
type keys map[string]int

// tokens divides the units of a block into those of its tokens, and returns what is aligned for each of these.
func (k keys) tokens(units []api.Item) (parts [][]api.Item, list []alignment.Token) {
	found, _ := segment.Tokens(run.Text(units))
	for _, t := range found {
		part := units[t.From:t.To]
		weight := min(len(part), alignment.MaxWeight)
		if t.Kind == segment.Space {
			weight = 1
		}
		parts = append(parts, part)
		list = append(list, alignment.Token{Key: k.key(part), Weight: weight})
	}
	return parts, list
}

// key returns the key of a token, which is the next one if no equal token has one yet.
func (k keys) key(token []api.Item) int {
	var content strings.Builder
	for _, unit := range token {
		writeUnit(&content, unit)
	}
	s := content.String()
	if _, known := k[s]; !known {
		k[s] = len(k) + 1
	}
	return k[s]
}

// writeUnit writes what equal units have in common; strings stand behind their lengths, so that different units differ.
func writeUnit(w *strings.Builder, unit api.Item) {
	numbers, text := []int{unit.Kind}, ""
	switch unit.Kind {
	case api.Text:
		text = unit.Text
	case api.Field:
		numbers, text = append(numbers, unit.Code), unit.Text
	case api.Anchor:
		numbers, text = append(numbers, unit.Code, unit.Id), unit.Text
	default:
		numbers = append(numbers, unit.Code)
	}
	for _, n := range append(numbers, len(text)) {
		w.WriteString(strconv.Itoa(n) + " ")
	}
	w.WriteString(text)
}
