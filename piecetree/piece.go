package piecetree

import "strings"

const lineFeed = "\n"

// piece is a non-empty range of a buffer, with the number of its line feeds. A buffer is a copy of a string that was inserted; as a string it never changes, and lives as long as a piece of it.
type piece struct {
	text  string
	feeds int
}

func newPiece(text string) piece { return piece{text, strings.Count(text, lineFeed)} }

// cut divides the piece at an offset inside of it.
func (p piece) cut(at int) (before, behind piece) {
	before = newPiece(p.text[:at])
	return before, piece{p.text[at:], p.feeds - before.feeds}
}

// feed returns the offset of the line feed with an index. There must be one.
func (p piece) feed(index int) int {
	at := strings.Index(p.text, lineFeed)
	for range index {
		at += 1 + strings.Index(p.text[at+1:], lineFeed)
	}
	return at
}
