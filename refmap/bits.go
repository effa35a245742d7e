package refmap

import (
	"iter"

	"crucible/api"
)

// maxMaps is how many maps there may be: an instruction has at least one byte.
const maxMaps = api.MaxCode

func isLong(locals, stack int) bool {
	return locals > api.MaxLocals || stack > api.MaxStack
}

// bits goes through the bits of a map, those of the locals first: how many are ahead of each, and where it is kept.
func (m Map) bits() iter.Seq2[int, *bool] {
	return func(yield func(int, *bool) bool) {
		n := 0
		for _, l := range [][]bool{m.Locals, m.Stack} {
			for i := range l {
				if !yield(n, &l[i]) {
					return
				}
				n++
			}
		}
	}
}

// size is how many bytes the bits of a map take.
func (m Map) size() int { return (len(m.Locals) + len(m.Stack) + 7) / 8 }

// packed are the bits of a map, eight in a byte.
func (m Map) packed() []byte {
	b := make([]byte, m.size())
	for n, bit := range m.bits() {
		if *bit {
			b[n/8] |= mask(n)
		}
	}
	return b
}

// mask is where bit n is in its byte.
func mask(n int) byte { return 0x80 >> (n % 8) }

func appendMap(b []byte, m Map) []byte {
	b = append(b, byte(len(m.Locals)), byte(len(m.Stack)))
	return append(b, m.packed()...)
}

// readMap reads the map at the front of s, and answers what is left.
func readMap(s string) (Map, string, api.Errno) {
	if len(s) < 2 {
		return Map{}, "", api.ErrShort
	}
	locals, stack, s := int(s[0]), int(s[1]), s[2:]
	if isLong(locals, stack) {
		return Map{}, "", api.ErrLong
	}
	m := Map{Locals: make([]bool, locals), Stack: make([]bool, stack)}
	size := m.size()
	if len(s) < size {
		return Map{}, "", api.ErrShort
	}
	for n, bit := range m.bits() {
		*bit = s[n/8]&mask(n) != 0
	}
	// All other bits are those of the map, so only unused ones can make a difference.
	if string(m.packed()) != s[:size] {
		return Map{}, "", api.ErrForm
	}
	return m, s[size:], api.OK
}
