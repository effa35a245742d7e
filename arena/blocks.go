package arena

const (
	headWords = 1
	minBlock  = 2 // words of a block, the head included
)

// States of a block: what its head has beside twice its size.
const (
	free = 0
	used = 1
)

// block is what is kept of a block, at its address, beside its words; it is zero where no block begins. (The words can't tell: a body may hold what looks like a head.)
type block struct {
	ahead       int // the size of the block that is ahead of it; word 0 counts as one of a single word
	left, right int // its place in the list of free blocks that it is in
}

// is tells whether a block with the address at is there and in that state.
func (a *Arena) is(state, at int) bool {
	return at > 0 && at < len(a.words) && a.blocks[at].ahead > 0 && a.state(at) == state
}

func (a *Arena) state(at int) int { return a.words[at] % 2 }

// size is how many words a block has, the head included.
func (a *Arena) size(at int) int { return a.words[at] / 2 }

func (a *Arena) body(at int) []int { return a.words[at+headWords : at+a.size(at)] }

// mark writes the head of a block, and tells the block behind it.
func (a *Arena) mark(at, size, state int) {
	a.words[at] = 2*size + state
	if behind := at + size; behind < len(a.words) {
		a.blocks[behind].ahead = size
	}
}

// forget makes a head a word of the free block ahead of it.
func (a *Arena) forget(at int) {
	a.words[at] = Poison
	a.blocks[at] = block{}
}

// release makes a block free whose body is poisoned already.
func (a *Arena) release(at, size int) {
	a.mark(at, size, free)
	a.add(at)
}

func poison(words []int) {
	for i := range words {
		words[i] = Poison
	}
}
