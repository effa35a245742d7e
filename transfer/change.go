package transfer

import (
	"crucible/api"
	"crucible/classfile"
	"crucible/desc"
	"crucible/hier"
	"crucible/lattice"
)

// change is a state that a rule is being applied to, in steps. The first error of a step is the rule's: those behind it go on, but what they make of the state is not told.
type change struct {
	api.State
	m     Method
	x     api.Instr
	ended bool      // nothing follows
	e     api.Errno // the first one
}

func (c *change) failIf(wrong bool, e api.Errno) {
	if wrong && c.e == api.OK {
		c.e = e
	}
}

func (c *change) push(k api.Known) {
	c.failIf(len(c.Stack) >= c.m.M.MaxStack, api.ErrStack)
	c.Stack = append(c.Stack, k)
}

// pushNamed pushes what is known of the values of a type without dimensions.
func (c *change) pushNamed(name string) { c.push(lattice.Of(named(name))) }

func (c *change) pop() api.Known {
	last := len(c.Stack) - 1
	if last < 0 {
		c.failIf(true, api.ErrStack)
		return api.Known{}
	}
	k := c.Stack[last]
	c.Stack = c.Stack[:last]
	return k
}

func (c *change) popType(t api.Type) {
	k := c.pop()
	c.failIf(!lattice.Fits(c.m.H, k, t), api.ErrType)
}

// popNamed pops types without dimensions, in the order given.
func (c *change) popNamed(names ...string) {
	for _, name := range names {
		c.popType(named(name))
	}
}

// popArgs pops the types of arguments, of which the last one was pushed last.
func (c *change) popArgs(args []api.Type) {
	for i := len(args) - 1; i >= 0; i-- {
		c.popType(args[i])
	}
}

func (c *change) popReference() api.Known {
	k := c.pop()
	c.failIf(!isReference(k), api.ErrType)
	return k
}

func isReference(k api.Known) bool { return k.Kind == api.KNull || k.Kind == api.KRef }

func isTop(k api.Known) bool { return k.Kind == api.KTop }

// replace puts a known in the place of another one, wherever that is.
func (c *change) replace(old, k api.Known) {
	for _, l := range [2][]api.Known{c.Locals, c.Stack} {
		for i := range l {
			if l[i] == old {
				l[i] = k
			}
		}
	}
}

// link is the constant with that tag that the instruction leads to.
func (c *change) link(tag int) api.Const {
	k, ok := c.m.constant(c.x.N, tag)
	c.failIf(!ok, api.ErrPool)
	return k
}

// class is the class of a class constant.
func (c *change) class(i int) hier.Class {
	name, _ := classfile.ClassName(c.m.F, i)
	class, ok := c.m.H.Find(name)
	c.failIf(!ok, api.ErrClass)
	return class
}

// linkedType is the type of the type constant that the instruction leads to.
func (c *change) linkedType() api.Type {
	t, _ := desc.Field(c.m.text(c.link(api.PoolType).A))
	_, ok := c.m.H.Find(t.Name)
	c.failIf(t.Name != number && !ok, api.ErrClass)
	return t
}
