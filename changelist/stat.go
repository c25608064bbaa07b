package changelist

import (
	"maps"
	"slices"

	"obelus/api"
	"obelus/document"
	"obelus/revision"
)

// move is what identifies a move: its revision and its number.
type move struct{ rev, number int }

// counter counts the entries of each author.
type counter struct {
	authors map[int]string // those of the revisions
	counts  map[string]Stat
	moves   map[move]bool
}

func newCounter(d api.Document) counter {
	c := counter{authors: make(map[int]string), counts: make(map[string]Stat), moves: make(map[move]bool)}
	for _, rev := range document.Used(d) {
		r, _ := revision.Find(d.Revs, rev)
		s := c.counts[r.Author]
		s.Author = r.Author
		s.Revs++
		c.authors[rev], c.counts[r.Author] = r.Author, s
	}
	return c
}

func (c counter) count(e Entry) {
	author := c.authors[e.Rev]
	s := c.counts[author]
	length := e.Range.To - e.Range.From
	switch {
	case e.Kind == Format:
		s.Formatted++
	case e.Scope != Items:
		s.Tables++
	case e.Kind == Insertion:
		s.Inserted += length
	case e.Kind == Deletion:
		s.Deleted += length
	}
	if m := (move{e.Rev, e.Move}); m.number != 0 && !c.moves[m] {
		c.moves[m] = true
		s.Moves++
	}
	c.counts[author] = s
}

// stats returns the counts in the order of the authors.
func (c counter) stats() []Stat {
	var all []Stat
	for _, author := range slices.Sorted(maps.Keys(c.counts)) {
		all = append(all, c.counts[author])
	}
	return all
}
