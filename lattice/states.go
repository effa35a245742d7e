package lattice

import (
	"slices"

	"crucible/api"
	"crucible/hier"
)

// JoinStates, BelowStates, Clone, Same are of states.
func JoinStates(t *hier.Table, a, b api.State) (api.State, api.Errno) {
	if len(a.Stack) != len(b.Stack) {
		return api.State{}, api.ErrStack
	}
	return api.State{Locals: joins(t, a.Locals, b.Locals), Stack: joins(t, a.Stack, b.Stack)}, api.OK
}

func BelowStates(t *hier.Table, a, b api.State) bool {
	return len(a.Stack) == len(b.Stack) && allBelow(t, a.Locals, b.Locals) && allBelow(t, a.Stack, b.Stack)
}

func Clone(s api.State) api.State {
	return api.State{Locals: slices.Clone(s.Locals), Stack: slices.Clone(s.Stack)}
}

func Same(a, b api.State) bool {
	return slices.Equal(a.Locals, b.Locals) && slices.Equal(a.Stack, b.Stack)
}

// joins are the Joins of the elements of two lists, as far as both go.
func joins(t *hier.Table, a, b []api.Known) []api.Known {
	l := make([]api.Known, min(len(a), len(b)))
	for i := range l {
		l[i] = Join(t, a[i], b[i])
	}
	return l
}

// allBelow tells whether a goes as far as b, and its elements are below those of b.
func allBelow(t *hier.Table, a, b []api.Known) bool {
	if len(a) < len(b) {
		return false
	}
	for i, k := range b {
		if !Below(t, a[i], k) {
			return false
		}
	}
	return true
}
