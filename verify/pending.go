package verify

// pending are the instructions that are still to be processed.
type pending struct {
	at map[int]struct{} // by their indices
	// None is ahead of first: to look for the least index from there on is quicker than to go through all.
	first int
}

func noPending() pending { return pending{at: map[int]struct{}{}} }

func (p *pending) add(i int) {
	p.at[i] = struct{}{}
	p.first = min(p.first, i)
}

// take takes the one with the least index out, and reports false where there is none.
func (p *pending) take() (int, bool) {
	if len(p.at) == 0 {
		return 0, false
	}
	for !p.has(p.first) {
		p.first++
	}
	delete(p.at, p.first)
	return p.first, true
}

func (p *pending) has(i int) bool {
	_, ok := p.at[i]
	return ok
}
