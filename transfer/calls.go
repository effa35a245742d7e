package transfer

import (
	"slices"

	"crucible/api"
	"crucible/desc"
	"crucible/lattice"
)

func (c *change) useField() {
	field := c.link(api.PoolField)
	class := c.class(field.A)
	t, _ := desc.Field(c.m.text(field.C))
	op := c.x.Op
	if op == api.Put || op == api.Sput {
		c.popType(t)
	}
	if op == api.Get || op == api.Put {
		c.popNamed(class.Name)
	}
	if op == api.Get || op == api.Sget {
		c.push(lattice.Of(t))
	}
}

func (c *change) call() {
	method := c.link(api.PoolMethod)
	class := c.class(method.A)
	name, sig := c.m.text(method.B), c.m.sig(method.C)
	op := c.x.Op
	c.failIf(name == clinitName || name == initName && op != api.Spec, api.ErrInit)
	c.failIf(op == api.Iface && !class.Iface, api.ErrKind)
	c.failIf((op == api.Virt || op == api.Spec) && class.Iface, api.ErrKind)
	c.popArgs(sig.Args)
	switch {
	case op == api.Virt || op == api.Iface:
		c.popNamed(class.Name)
	case op == api.Spec && name == initName:
		c.initialise(class.Name)
	case op == api.Spec:
		own := c.m.own()
		c.failIf(!slices.Contains(c.m.H.Chain(own), class.Name), api.ErrKind)
		c.popNamed(own)
	}
	if !sig.Void {
		c.push(lattice.Of(sig.Ret))
	}
}

// initialise pops an object for which a constructor of that class is called, and so makes a reference of it wherever it is.
func (c *change) initialise(class string) {
	k := c.pop()
	switch k.Kind {
	case api.KNew:
		c.failIf(!c.m.makes(class, k.N), api.ErrInit)
		c.replace(k, lattice.Of(named(class)))
	case api.KThis:
		own := c.m.own()
		c.failIf(class != own && class != c.m.super(), api.ErrInit)
		c.replace(k, lattice.Of(named(own)))
	default:
		c.failIf(true, api.ErrInit)
	}
}

func (c *change) spawn() {
	method := c.link(api.PoolMethod)
	c.class(method.A)
	name, sig := c.m.text(method.B), c.m.sig(method.C)
	c.failIf(name == initName || name == clinitName, api.ErrInit)
	c.failIf(!sig.Void, api.ErrType)
	c.popArgs(sig.Args)
	c.pushNamed(number)
}

// leave is a return. One from a constructor needs its object to be initialised.
func (c *change) leave() {
	sig := c.m.sig(c.m.M.Desc)
	c.failIf(sig.Void != (c.x.Op == api.Ret), api.ErrType)
	switch {
	case c.x.Op == api.Vret:
		c.popType(sig.Ret)
	case c.m.isConstructor():
		c.failIf(len(c.Locals) == 0 || !isReference(c.Locals[0]), api.ErrInit)
	}
	c.ended = true
}

// askType asks whether a reference is of a type.
func (c *change) askType() {
	t := c.linkedType()
	c.failIf(!desc.IsRef(t), api.ErrType)
	c.popReference()
	if c.x.Op == api.Cast {
		c.push(lattice.Of(t))
		return
	}
	c.pushNamed(number)
}
