package leveltext

import (
	"strings"

	"obelus/api"
)

// scanner reads a template.
type scanner struct {
	template string
	at       int
	literal  strings.Builder // what has been read of a literal string
	parts    []Part
	places   int
}

// scan reads the whole template, and reports whether it follows the grammar.
func (s *scanner) scan() bool {
	for s.at < len(s.template) {
		if !s.skip('%') {
			s.literal.WriteByte(s.template[s.at])
			s.at++
		} else if !s.sequence() {
			return false
		}
	}
	s.endLiteral()
	return true
}

// sequence reads what stands behind a percent sign, and reports whether that is right.
func (s *scanner) sequence() bool {
	if s.skip('%') {
		s.literal.WriteByte('%')
		return true
	}
	plain := s.skip('d')
	if s.at == len(s.template) || s.template[s.at] < '1' || s.template[s.at] > '9' {
		return false
	}
	s.endLiteral()
	s.parts = append(s.parts, Part{Level: int(s.template[s.at] - '0'), Plain: plain})
	s.places++
	s.at++
	return true
}

// skip reads a byte if it is the next one.
func (s *scanner) skip(b byte) bool {
	if s.at == len(s.template) || s.template[s.at] != b {
		return false
	}
	s.at++
	return true
}

// endLiteral makes a part of the literal string that has been read, if there is one.
func (s *scanner) endLiteral() {
	if s.literal.Len() > 0 {
		s.parts = append(s.parts, Part{Literal: s.literal.String()})
		s.literal.Reset()
	}
}

func isControl(r rune) bool { return r < ' ' || r == 0x7F }

// isPlace reports whether a part is a placeholder.
func (p Part) isPlace() bool { return p.Level != 0 }

// join writes parts one behind the other. Parts that no template has are written as something else, or as something wrong.
func join(l []Part) string {
	var template strings.Builder
	for _, p := range l {
		if !p.isPlace() {
			template.WriteString(strings.ReplaceAll(p.Literal, "%", "%%"))
			continue
		}
		template.WriteByte('%')
		if p.Plain {
			template.WriteByte('d')
		}
		if p.Level > 0 && p.Level <= api.MaxLevels {
			template.WriteByte(byte('0' + p.Level))
		}
	}
	return template.String()
}
