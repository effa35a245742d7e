package check

import (
	"slices"

	"crucible/api"
	"crucible/classfile"
	"crucible/code"
	"crucible/flow"
	"crucible/hier"
	"crucible/transfer"
	"crucible/verify"
)

// typing is what is said of a method, beside what its code and its handlers are.
type typing struct {
	verify.Typed
	m           transfer.Method
	succ, cover [][]int // of each instruction: those that may follow it, the handlers that cover it
	starts      []int   // of each handler: its first instruction
}

// typingOf is what t says of a method; false: there is no such method, or its code or its handlers are wrong by themselves.
func typingOf(h *hier.Table, f api.File, i int, t verify.Typed) (*typing, bool) {
	if !isOwn(h, f) || i < 0 || i >= len(f.Methods) || f.Methods[i].Flags&api.FlagAbstract != 0 {
		return nil, false
	}
	m := f.Methods[i]
	l, e := code.Decode(m.Code)
	if e != api.OK {
		return nil, false
	}
	cover, e := flow.Cover(l, len(m.Code), m.Handlers)
	if e != api.OK {
		return nil, false
	}
	return &typing{
		Typed:  t,
		m:      transfer.Method{F: f, M: m, H: h, L: l},
		succ:   flow.Succ(l),
		cover:  cover,
		starts: flow.Starts(l, m.Handlers),
	}, true
}

// isOwn tells whether a file is right and its class one of the table's own.
func isOwn(h *hier.Table, f api.File) bool {
	if classfile.Right(f) != api.OK {
		return false
	}
	name, _ := classfile.ClassName(f, f.This)
	c, _ := h.Find(name)
	return c.Own
}

// complete tells whether the method's instructions are those that the typing is about, and it says something of each.
func (t *typing) complete() bool {
	n := len(t.m.L)
	return slices.EqualFunc(t.L, t.m.L, sameInstr) && len(t.States) == n && len(t.Reached) == n
}

func sameInstr(a, b api.Instr) bool {
	return a.Pc == b.Pc && a.Op == b.Op && a.N == b.N && slices.Equal(a.Keys, b.Keys) && slices.Equal(a.To, b.To)
}
