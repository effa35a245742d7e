// Package mutf: texts as bytes: layer 1: see shared/doc/01-mutf.md.
package mutf

import "crucible/api"

// maxBytes is the most bytes that the encoding of a text may have.
const maxBytes = 65535

// badRune is what a range over a string answers for a byte that belongs to no rune.
// It is a rune of its own as well: goodBad are its bytes.
const (
	badRune = 0xFFFD
	goodBad = "\xef\xbf\xbd"
)

// Where the two halves of a surrogate pair begin and end.
const (
	highFirst = 0xD800
	highLast  = 0xDBFF
	lowFirst  = 0xDC00
	lowLast   = 0xDFFF
	pairFirst = 0x10000
	runeLast  = 0x10FFFF
)

// Encode writes a text in modified UTF-8.
func Encode(text string) (string, api.Errno) {
	if !valid(text) {
		return "", api.ErrForm
	}
	n := encodedLen(text)
	if n > maxBytes {
		return "", api.ErrLong
	}
	b := make([]byte, 0, n)
	for _, r := range text {
		b = appendRune(b, r)
	}
	return string(b), api.OK
}

// Decode reads a text in modified UTF-8.
func Decode(b string) (string, api.Errno) {
	if len(b) > maxBytes {
		return "", api.ErrLong
	}
	l := make([]rune, 0, len(b))
	for i := 0; i < len(b); {
		r, n := firstRune(b[i:])
		if n == 0 {
			return "", api.ErrForm
		}
		l = append(l, r)
		i += n
	}
	return string(l), api.OK
}

// Len is how many runes a text has.
func Len(text string) int {
	n := 0
	for range text {
		n++
	}
	return n
}

// At is the i-th rune of a text, if there is one.
func At(text string, i int) (rune, bool) {
	if i < 0 {
		return 0, false
	}
	for _, r := range text {
		if i == 0 {
			return r, true
		}
		i--
	}
	return 0, false
}

// Runes lists all runes of a text.
func Runes(text string) []rune {
	l := make([]rune, 0, Len(text))
	for _, r := range text {
		l = append(l, r)
	}
	return l
}

// Make is the text of the runes l.
func Make(l []rune) (string, api.Errno) {
	for _, r := range l {
		if !scalar(r) {
			return "", api.ErrArg
		}
	}
	return string(l), api.OK
}

// Name tells whether a text may be a name.
func Name(text string) bool {
	n := 0
	for _, r := range text {
		n++
		if n > api.MaxName || !nameRune(r) {
			return false
		}
	}
	return n > 0 && valid(text)
}

// nameRune tells whether a rune may stand in a name.
func nameRune(r rune) bool {
	switch r {
	case 127, ';', '[', '(', ')', '.':
		return false
	}
	return r > ' '
}

// scalar tells whether a rune is a scalar value.
func scalar(r rune) bool {
	return r >= 0 && r < highFirst || r > lowLast && r <= runeLast
}

// valid tells whether a string is a text.
func valid(text string) bool {
	for i, r := range text {
		// The range answers badRune for a broken byte and for the rune itself: only the bytes tell them apart.
		if r == badRune && !startsGoodBad(text[i:]) {
			return false
		}
	}
	return true
}

func startsGoodBad(text string) bool {
	return len(text) >= len(goodBad) && text[:len(goodBad)] == goodBad
}

// encodedLen is how many bytes the encoding of a text has.
func encodedLen(text string) int {
	n := 0
	for _, r := range text {
		n += runeLen(r)
	}
	return n
}

// runeLen is how many bytes a rune has.
func runeLen(r rune) int {
	switch {
	case r >= 1 && r <= 0x7F:
		return 1
	case r <= 0x7FF:
		return 2
	case r < pairFirst:
		return 3
	}
	return 6
}

// appendRune adds the bytes of a rune to b.
func appendRune(b []byte, r rune) []byte {
	if r < pairFirst {
		return appendUnit(b, r)
	}
	r -= pairFirst
	b = appendUnit(b, highFirst+r>>10)
	return appendUnit(b, lowFirst+r&0x3FF)
}

// appendUnit adds the bytes of a number of 16 bits to b: of a rune, or of half a surrogate pair.
func appendUnit(b []byte, u rune) []byte {
	switch runeLen(u) {
	case 1:
		return append(b, byte(u))
	case 2:
		return append(b, byte(0xC0+u>>6), byte(0x80+u&0x3F))
	}
	return append(b, byte(0xE0+u>>12), byte(0x80+u>>6&0x3F), byte(0x80+u&0x3F))
}

// firstRune reads the rune that b begins with, and how many bytes it has: 0 if there is none.
func firstRune(b string) (rune, int) {
	u, n := firstUnit(b)
	if n == 0 || scalar(u) {
		return u, n
	}
	// Where no unit follows, low is 0: no low half.
	low, m := firstUnit(b[n:])
	if u > highLast || low < lowFirst || low > lowLast {
		return 0, 0
	}
	return pairFirst + (u-highFirst)<<10 + (low - lowFirst), n + m
}

// firstUnit reads the number of 16 bits that b begins with, and how many bytes it has: 0 if there is none.
func firstUnit(b string) (rune, int) {
	n := unitLen(b)
	if n == 0 {
		return 0, 0
	}
	u := rune(b[0])
	if n > 1 {
		u &= 0xFF >> (n + 1)
	}
	for i := 1; i < n; i++ {
		if b[i]&0xC0 != 0x80 {
			return 0, 0
		}
		u = u<<6 | rune(b[i]&0x3F)
	}
	if runeLen(u) != n {
		return 0, 0
	}
	return u, n
}

// unitLen is how many bytes the first byte of b asks for: 0 if it begins nothing, or if b has fewer.
func unitLen(b string) int {
	n := 0
	switch {
	case b == "":
	case b[0] < 0x80:
		n = 1
	case b[0] >= 0xC0 && b[0] < 0xE0:
		n = 2
	case b[0] >= 0xE0 && b[0] < 0xF0:
		n = 3
	}
	if n > len(b) {
		return 0
	}
	return n
}
