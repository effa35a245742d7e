package code

import "crucible/api"

// Widths of numbers, in bytes.
const (
	narrow = 1 // of an op, and the number of form b
	wide   = 2 // of a link, a jump, and how many keys there are
)

// read reads numbers of so many bytes each off the front of s, and answers what is left. It reports false where s is too short.
func read(s string, width int, numbers ...*int) (string, bool) {
	if len(s) < width*len(numbers) {
		return "", false
	}
	for _, n := range numbers {
		*n = 0
		for _, c := range []byte(s[:width]) {
			*n = *n<<8 | int(c)
		}
		s = s[width:]
	}
	return s, true
}

// write adds numbers in so many bytes each, a negative one in two's complement.
func write(b []byte, width int, numbers ...int) []byte {
	for _, n := range numbers {
		for i := width - 1; i >= 0; i-- {
			b = append(b, byte(n>>(8*i)))
		}
	}
	return b
}

// readInstr reads the instruction at the front of s, which is at pc of its code, and answers what is left.
func readInstr(s string, pc int) (api.Instr, string, api.Errno) {
	in := api.Instr{Pc: pc}
	rest, ok := read(s, narrow, &in.Op)
	switch Form(in.Op) {
	case 0:
		return api.Instr{}, "", api.ErrOp
	case formLink:
		rest, ok = read(rest, wide, &in.N)
	case formByte:
		rest, ok = read(rest, narrow, &in.N)
	case formJump:
		var jump int
		rest, ok = read(rest, wide, &jump)
		in.To = []int{target(pc, jump)}
	case formSwitch:
		in.Keys, in.To, rest, ok = readSwitch(rest, pc)
	}
	if !ok {
		return api.Instr{}, "", api.ErrShort
	}
	return in, rest, api.OK
}

// readSwitch reads the operands of a switch at pc: its keys, its targets, and what is left.
func readSwitch(s string, pc int) (keys, to []int, rest string, ok bool) {
	var jump, count, key int
	rest, ok = read(s, wide, &jump, &count)
	to = append(to, target(pc, jump))
	for ok && len(keys) < count {
		rest, ok = read(rest, wide, &key, &jump)
		keys = append(keys, key)
		to = append(to, target(pc, jump))
	}
	return keys, to, rest, ok
}

// target is where a jump of an instruction at pc leads: its 16 bits are in two's complement.
func target(pc, jump int) int { return pc + int(int16(jump)) }

// appendInstr adds the bytes of an instruction.
func appendInstr(b []byte, in api.Instr) []byte {
	b = write(b, narrow, in.Op)
	switch Form(in.Op) {
	case formLink:
		b = write(b, wide, in.N)
	case formByte:
		b = write(b, narrow, in.N)
	case formJump:
		b = write(b, wide, in.To[0]-in.Pc)
	case formSwitch:
		b = write(b, wide, in.To[0]-in.Pc, len(in.Keys))
		for i, key := range in.Keys {
			b = write(b, wide, key, in.To[i+1]-in.Pc)
		}
	}
	return b
}

// sizeOf is how many bytes an instruction has.
func sizeOf(in api.Instr) int {
	switch Form(in.Op) {
	case formLink, formJump:
		return narrow + wide
	case formByte:
		return narrow + narrow
	case formSwitch:
		return narrow + 2*wide + len(in.Keys)*2*wide
	}
	return narrow
}
