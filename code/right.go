package code

import "crucible/api"

const (
	maxLink = 65535
	maxByte = 255
	// maxKeys is how many keys a switch has at most: more of them are longer than any code.
	maxKeys = 1022
)

// lengthError is what is wrong with a code of so many bytes.
func lengthError(size int) api.Errno {
	switch {
	case size == 0:
		return api.ErrShort
	case size > api.MaxCode:
		return api.ErrLong
	}
	return api.OK
}

// instrError is what is wrong with an instruction by itself, which is to be at pc.
func instrError(in api.Instr, pc int) api.Errno {
	form := Form(in.Op)
	if form == 0 {
		return api.ErrOp
	}
	if in.N < 0 || in.N > maxNumber(form) || in.Pc != pc || len(in.To) != jumpsOf(in) || !rightKeys(form, in.Keys) {
		return api.ErrArg
	}
	return api.OK
}

// maxNumber is the greatest N of an instruction.
func maxNumber(form byte) int {
	switch form {
	case formLink:
		return maxLink
	case formByte:
		return maxByte
	}
	return 0
}

// jumpsOf is how many jumps an instruction has.
func jumpsOf(in api.Instr) int {
	switch Form(in.Op) {
	case formJump:
		return 1
	case formSwitch:
		return 1 + len(in.Keys)
	}
	return 0
}

func rightKeys(form byte, keys []int) bool {
	if form != formSwitch {
		return len(keys) == 0
	}
	if len(keys) > maxKeys {
		return false
	}
	for _, k := range keys {
		if k < 0 || k > maxLink {
			return false
		}
	}
	return true
}

// flowError is what is wrong with where instructions lead: those of a code that is neither empty nor too long.
func flowError(l []api.Instr) api.Errno {
	var starts [api.MaxCode]bool
	for _, in := range l {
		starts[in.Pc] = true
	}
	for _, in := range l {
		for _, to := range in.To {
			if to < 0 || to >= len(starts) || !starts[to] {
				return api.ErrJump
			}
		}
	}
	if !Ends(l[len(l)-1].Op) {
		return api.ErrEnd
	}
	return api.OK
}
