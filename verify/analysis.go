package verify

import (
	"crucible/api"
	"crucible/code"
	"crucible/flow"
	"crucible/hier"
	"crucible/lattice"
	"crucible/transfer"
)

// analysis is what has been found out of a method so far. No state in it is changed in place: one that is being processed stays as it was when another one takes its place.
type analysis struct {
	Typed
	m           transfer.Method
	succ, cover [][]int // of each instruction: those that may follow it, the handlers that cover it
	starts      []int   // of each handler: its first instruction
	pending     pending
}

// begin is the analysis of a method of which nothing but the state at its beginning is known.
func begin(h *hier.Table, f api.File, m api.Member) (*analysis, api.Errno) {
	l, e := code.Decode(m.Code)
	if e != api.OK {
		return nil, e
	}
	cover, e := flow.Cover(l, len(m.Code), m.Handlers)
	if e != api.OK {
		return nil, e
	}
	method := transfer.Method{F: f, M: m, H: h, L: l}
	start, e := transfer.Start(method)
	if e != api.OK {
		return nil, e
	}
	a := &analysis{
		Typed:   Typed{L: l, States: make([]api.State, len(l)), Reached: make([]bool, len(l))},
		m:       method,
		succ:    flow.Succ(l),
		cover:   cover,
		starts:  flow.Starts(l, m.Handlers),
		pending: noPending(),
	}
	return a, a.propagate(start, 0)
}

// process propagates what an instruction makes of its state.
func (a *analysis) process(x int) api.Errno {
	s := a.States[x]
	for _, i := range a.cover[x] {
		caught, e := transfer.Caught(a.m, a.m.M.Handlers[i], s)
		if e != api.OK {
			return e
		}
		if e := a.propagate(caught, a.starts[i]); e != api.OK {
			return e
		}
	}
	after, follows, e := transfer.Step(a.m, a.L[x], s)
	if e != api.OK || !follows {
		return e
	}
	for _, next := range a.succ[x] {
		if e := a.propagate(after, next); e != api.OK {
			return e
		}
	}
	return api.OK
}

// propagate tells an instruction that s may be the state ahead of it.
func (a *analysis) propagate(s api.State, to int) api.Errno {
	known := a.States[to]
	switch {
	case !a.Reached[to]:
		a.Reached[to] = true
		// A copy: the same state may go to several instructions.
		a.States[to] = lattice.Clone(s)
		a.pending.add(to)
		return api.OK
	case lattice.Same(known, s):
		// Nothing new, and to find that out by joining would take much longer.
		return api.OK
	}
	joined, e := lattice.JoinStates(a.m.H, known, s)
	if e != api.OK {
		return e
	}
	if !lattice.Same(joined, known) {
		a.States[to] = joined
		a.pending.add(to)
	}
	return api.OK
}
