package arena

import (
	"math/bits"

	"crucible/api"
)

// classes is how many lists of free blocks there are: sizes have up to 20 bits.
const classes = 21

// A list is in the order of keys, and kept as a treap: keys grow from left to right, ranks from the bottom to the top. So a step costs little even where a list has as many blocks as the heap has room for. A list is told by the block at its top; 0 is the empty one.

// class tells in which list blocks of that size are: a later list has greater ones.
func class(size int) int { return bits.Len(uint(size)) }

// sizeKey is below the keys of all blocks of that size, and above those of all smaller ones.
func sizeKey(size int) int { return size * api.MaxHeap }

// key puts blocks in the order in which they are taken: by size, then by address.
func (a *Arena) key(at int) int { return sizeKey(a.size(at)) + at }

// rank mixes the bits of an address: ranks in the order of addresses would make a treap as deep as it is long.
func rank(at int) uint32 {
	x := uint32(at) * 0x9E3779B1
	x = (x ^ x>>15) * 0x85EBCA77
	return x ^ x>>13
}

// best is the free block that is taken where a size is asked for; 0 if there is none.
func (a *Arena) best(size int) int {
	for c := class(size); c < classes; c++ {
		if at := a.first(a.free[c], sizeKey(size)); at != 0 {
			return at
		}
	}
	return 0
}

// add puts a free block into its list.
func (a *Arena) add(at int) {
	top := &a.free[class(a.size(at))]
	below, above := a.split(*top, a.key(at))
	*top = a.join(a.join(below, at), above)
}

// remove takes a free block out of its list.
func (a *Arena) remove(at int) {
	top := &a.free[class(a.size(at))]
	below, rest := a.split(*top, a.key(at))
	_, above := a.split(rest, a.key(at)+1)
	*top = a.join(below, above)
}

// first is the first block of a list whose key is not below key; 0 if there is none.
func (a *Arena) first(top, key int) int {
	found := 0
	for top != 0 {
		if a.key(top) < key {
			top = a.blocks[top].right
		} else {
			found, top = top, a.blocks[top].left
		}
	}
	return found
}

// split parts a list: the blocks whose keys are below key, and the others.
func (a *Arena) split(top, key int) (below, rest int) {
	if top == 0 {
		return 0, 0
	}
	b := &a.blocks[top]
	if a.key(top) < key {
		b.right, rest = a.split(b.right, key)
		return top, rest
	}
	below, b.left = a.split(b.left, key)
	return below, top
}

// join is one list of two, of which the second has the greater keys.
func (a *Arena) join(below, above int) int {
	switch {
	case below == 0:
		return above
	case above == 0:
		return below
	case rank(below) > rank(above):
		b := &a.blocks[below]
		b.right = a.join(b.right, above)
		return below
	}
	b := &a.blocks[above]
	b.left = a.join(below, b.left)
	return above
}
