package flow

import "crucible/api"

// none is what stands for an instruction that is not there.
const none = -1

// places are the indices of instructions by their positions: they are asked for each jump, which code.Index would walk the list for.
type places map[int]int

// placesOf are those of a list that code.Decode answers, in which no two instructions are at one position.
func placesOf(l []api.Instr) places {
	at := make(places, len(l))
	for i, in := range l {
		at[in.Pc] = i
	}
	return at
}

// index is the index of the instruction at a position, or none.
func (at places) index(pc int) int {
	if i, ok := at[pc]; ok {
		return i
	}
	return none
}
