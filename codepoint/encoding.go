package codepoint

// scan reads the encoding that begins at a byte offset. Where none begins, ok is false, and size is the number of bytes of the well-formed beginning.
func scan(s string, at int) (point, size int, ok bool) {
	first := s[at]
	length := width(first)
	if length < 2 {
		return int(first), length, length == 1
	}
	point = int(first) & (0x7F >> length)
	low, high := secondBytes(first)
	for size = 1; size < length; size++ {
		if at+size == len(s) || s[at+size] < low || s[at+size] > high {
			return 0, size, false
		}
		point = point<<6 | int(s[at+size])&0x3F
		low, high = 0x80, 0xBF
	}
	return point, size, true
}

// width returns the number of bytes of the encodings that begin with a byte, or 0 if there are none.
func width(first byte) int {
	switch {
	case first < 0x80:
		return 1
	case first < 0xC2: // further bytes, and the overlong encodings of two bytes
		return 0
	case first < 0xE0:
		return 2
	case first < 0xF0:
		return 3
	case first < 0xF5:
		return 4
	}
	return 0
}

// secondBytes returns the bounds of the second byte behind a first one. They are narrower than those of other bytes where overlong encodings, surrogates or numbers above MaxPoint would follow.
func secondBytes(first byte) (low, high byte) {
	switch first {
	case 0xE0:
		return 0xA0, 0xBF
	case 0xED:
		return 0x80, 0x9F
	case 0xF0:
		return 0x90, 0xBF
	case 0xF4:
		return 0x80, 0x8F
	}
	return 0x80, 0xBF
}

func appendEncoding(bytes []byte, p int) []byte {
	switch {
	case p < 0x80:
		return append(bytes, byte(p))
	case p < 0x800:
		return append(bytes, 0xC0|byte(p>>6), further(p))
	case p < 0x10000:
		return append(bytes, 0xE0|byte(p>>12), further(p>>6), further(p))
	}
	return append(bytes, 0xF0|byte(p>>18), further(p>>12), further(p>>6), further(p))
}

// further returns the byte with the lowest six bits of p.
func further(p int) byte { return 0x80 | byte(p&0x3F) }
