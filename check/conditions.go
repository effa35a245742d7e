package check

import (
	"slices"

	"crucible/api"
	"crucible/lattice"
	"crucible/transfer"
)

// condition is one of those for an instruction: what is made of the state ahead of it is below the states of all instructions that it goes to.
type condition struct {
	made func(s api.State) (api.State, bool, api.Errno) // false: nothing goes on
	to   []int
}

// fault is the error of the first condition for an instruction that is not met.
func (t *typing) fault(x int) api.Errno {
	for _, c := range t.conditions(x) {
		if e := t.unmet(c, t.States[x]); e != api.OK {
			return e
		}
	}
	return api.OK
}

// conditions are those for an instruction that is reached, in the order in which they are asked.
func (t *typing) conditions(x int) []condition {
	l := []condition{{made: t.allowed}}
	if !t.handled(x) {
		for _, i := range t.cover[x] {
			l = append(l, condition{made: t.caught(i), to: t.starts[i : i+1]})
		}
	}
	return append(l, condition{made: t.stepped(x), to: t.succ[x]})
}

// handled tells whether the conditions of an instruction's handlers are met because those of the instruction ahead, asked earlier, are: a handler is given nothing but the locals.
func (t *typing) handled(x int) bool {
	y := x - 1
	return x > 0 && t.Reached[y] && slices.Equal(t.cover[x], t.cover[y]) && slices.Equal(t.States[x].Locals, t.States[y].Locals)
}

// begun tells whether the state at the beginning of the method is below what is said of its first instruction.
func (t *typing) begun() bool {
	start := func(api.State) (api.State, bool, api.Errno) {
		s, e := transfer.Start(t.m)
		return s, e == api.OK, e
	}
	return t.unmet(condition{made: start, to: []int{0}}, api.State{}) == api.OK
}

// unmet is the error of a condition that is not met for a state.
func (t *typing) unmet(c condition, s api.State) api.Errno {
	made, goes, e := c.made(s)
	if e != api.OK || !goes {
		return e
	}
	for _, next := range c.to {
		if !t.Reached[next] || !lattice.BelowStates(t.m.H, made, t.States[next]) {
			return api.ErrState
		}
	}
	return api.OK
}

// allowed makes nothing of a state, but an error of one that the method can't have.
func (t *typing) allowed(s api.State) (api.State, bool, api.Errno) {
	if len(s.Locals) != t.m.M.MaxLocals || len(s.Stack) > t.m.M.MaxStack || !allRight(s.Locals) || !allRight(s.Stack) {
		return api.State{}, false, api.ErrState
	}
	return api.State{}, false, api.OK
}

func allRight(l []api.Known) bool {
	return !slices.ContainsFunc(l, func(k api.Known) bool { return !lattice.Right(k) })
}

// caught makes of a state the one at the beginning of a handler.
func (t *typing) caught(i int) func(api.State) (api.State, bool, api.Errno) {
	return func(s api.State) (api.State, bool, api.Errno) {
		made, e := transfer.Caught(t.m, t.m.M.Handlers[i], s)
		return made, e == api.OK, e
	}
}

// stepped makes of a state the one behind an instruction.
func (t *typing) stepped(x int) func(api.State) (api.State, bool, api.Errno) {
	return func(s api.State) (api.State, bool, api.Errno) {
		return transfer.Step(t.m, t.m.L[x], s)
	}
}
