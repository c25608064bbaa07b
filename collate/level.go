package collate

import "iter"

// text is a string with its elements.
type text struct {
	s        string
	elements []Element
}

func (e Element) primary() int   { return e.Primary }
func (e Element) secondary() int { return e.Secondary }
func (e Element) tertiary() int  { return e.Tertiary }

// weights yields the weights of the text on a level, in order, without zeros.
func (t text) weights(level func(Element) int) iter.Seq[int] {
	return func(yield func(int) bool) {
		for _, e := range t.elements {
			if weight := level(e); weight != 0 && !yield(weight) {
				return
			}
		}
	}
}

// levels returns the functions that write a text to a key, one for each strength.
func levels() []func(key []byte, t text) []byte {
	return []func(key []byte, t text) []byte{
		func(key []byte, t text) []byte { return appendLevel(key, t.weights(Element.primary), 3) },
		func(key []byte, t text) []byte { return appendLevel(key, t.weights(Element.secondary), 2) },
		func(key []byte, t text) []byte { return appendLevel(key, t.weights(Element.tertiary), 1) },
		func(key []byte, t text) []byte { return append(key, t.s...) },
	}
}

// appendLevel writes weights in size bytes each, and a zero behind them: no weight is 0, so that a list that goes on is greater than one that ends.
func appendLevel(key []byte, weights iter.Seq[int], size int) []byte {
	for weight := range weights {
		key = appendWeight(key, weight, size)
	}
	return appendWeight(key, 0, size)
}

// appendWeight writes a weight, the most significant byte first.
func appendWeight(key []byte, weight, size int) []byte {
	for size > 0 {
		size--
		key = append(key, byte(weight>>(8*size)))
	}
	return key
}
