package transfer

import (
	"slices"

	"crucible/api"
	"crucible/desc"
	"crucible/lattice"
)

// apply applies the rule of the instruction's op.
func (c *change) apply() {
	switch c.x.Op {
	case api.Nop, api.Goto, api.Yield:
	case api.Int:
		c.link(api.PoolInt)
		c.pushNamed(number)
	case api.Text:
		c.link(api.PoolText)
		c.pushNamed(text)
	case api.Null:
		c.push(api.Known{Kind: api.KNull})
	case api.Load, api.Store:
		c.useLocal()
	case api.Pop, api.Dup, api.Swap:
		c.shuffle()
	case api.Switch:
		c.choose()
	case api.New:
		c.create()
	case api.Array:
		c.createArray()
	case api.Len, api.Aget, api.Aput:
		c.useArray()
	case api.Get, api.Put, api.Sget, api.Sput:
		c.useField()
	case api.Virt, api.Iface, api.Stat, api.Spec:
		c.call()
	case api.Spawn:
		c.spawn()
	case api.Ret, api.Vret:
		c.leave()
	case api.Throw:
		c.popNamed(throwable)
		c.ended = true
	case api.Cast, api.Is:
		c.askType()
	default:
		c.applyPlain()
	}
}

// applyPlain applies the rule of an op that always pops and pushes the same types.
func (c *change) applyPlain() {
	switch c.x.Op {
	case api.Add, api.Sub, api.Mul, api.Div, api.Rem, api.And, api.Or, api.Xor, api.Shl, api.Shr:
		c.popNamed(number, number)
		c.pushNamed(number)
	case api.Neg:
		c.popNamed(number)
		c.pushNamed(number)
	case api.IfEq, api.IfNe, api.IfLt, api.IfGe, api.Join, api.Print:
		c.popNamed(number)
	case api.CmpEq, api.CmpLt:
		c.popNamed(number, number)
	case api.IfNull, api.IfSome, api.Enter, api.Exit:
		c.popReference()
	case api.Same:
		c.popReference()
		c.popReference()
	default:
		c.applyBuiltin()
	}
}

// applyBuiltin applies the rule of an op of a built-in class.
func (c *change) applyBuiltin() {
	switch c.x.Op {
	case api.Prints:
		c.popNamed(text)
	case api.Weak:
		c.popReference()
		c.pushNamed(weak)
	case api.Deref:
		c.popNamed(weak)
		c.pushNamed(object)
	case api.Slen:
		c.popNamed(text)
		c.pushNamed(number)
	case api.Schar:
		c.popNamed(number, text)
		c.pushNamed(number)
	case api.Scat:
		c.popNamed(text, text)
		c.pushNamed(text)
	case api.Intern:
		c.popNamed(text)
		c.pushNamed(text)
	case api.Loader:
		c.popNamed(number)
		c.pushNamed(loader)
	case api.Make:
		c.popNamed(text, loader)
		c.pushNamed(object)
	default:
		c.failIf(true, api.ErrArg)
	}
}

// useLocal loads a local, or stores into one. A constructor keeps the local 0: what it holds tells at the end whether another constructor was called.
func (c *change) useLocal() {
	n, storing := c.x.N, c.x.Op == api.Store
	if n < 0 || n >= len(c.Locals) || storing && n == 0 && c.m.isConstructor() {
		c.failIf(true, api.ErrLocal)
		return
	}
	if storing {
		c.Locals[n] = c.pop()
		return
	}
	c.failIf(isTop(c.Locals[n]), api.ErrType)
	c.push(c.Locals[n])
}

func (c *change) shuffle() {
	first := c.pop()
	switch c.x.Op {
	case api.Dup:
		c.push(first)
		c.push(first)
	case api.Swap:
		second := c.pop()
		c.push(first)
		c.push(second)
	}
}

// choose is the switch: its keys rise.
func (c *change) choose() {
	last := 0
	for i, key := range c.x.Keys {
		k, ok := c.m.constant(key, api.PoolInt)
		c.failIf(!ok, api.ErrPool)
		c.failIf(i > 0 && k.N <= last, api.ErrArg)
		last = k.N
	}
	c.popNamed(number)
}

func (c *change) create() {
	c.link(api.PoolClass)
	class := c.class(c.x.N)
	sealed := class.Name == text || class.Name == weak || class.Name == loader
	c.failIf(class.Abstract || sealed, api.ErrKind)
	// What was made here earlier would be taken for what is made now. A TOP may be such a one.
	made := api.Known{Kind: api.KNew, N: c.x.Pc}
	c.failIf(slices.Contains(c.Stack, made) || slices.ContainsFunc(c.Stack, isTop), api.ErrInit)
	c.replace(made, api.Known{Kind: api.KTop})
	c.push(made)
}

func (c *change) createArray() {
	element := c.linkedType()
	c.popNamed(number)
	array, ok := desc.ArrayOf(element)
	c.failIf(!ok, api.ErrDesc)
	c.push(lattice.Of(array))
}

func (c *change) useArray() {
	switch c.x.Op {
	case api.Len:
		k := c.popReference()
		_, ok := desc.Element(k.T)
		c.failIf(k.Kind == api.KRef && !ok, api.ErrType)
		c.pushNamed(number)
	case api.Aget:
		c.popNamed(number)
		if element, ok := c.popArray(); ok {
			c.push(lattice.Of(element))
		}
	case api.Aput:
		value := c.pop()
		c.popNamed(number)
		if element, ok := c.popArray(); ok {
			// What references the array may hold is asked only when the program runs: it may have been made for fewer than is known here.
			c.failIf(desc.IsRef(element) && !isReference(value) || !desc.IsRef(element) && value.Kind != api.KInt, api.ErrType)
		}
	}
}

// popArray pops an array and answers the type of its elements. NULL has none: nothing follows.
func (c *change) popArray() (api.Type, bool) {
	k := c.popReference()
	if k.Kind == api.KNull {
		c.ended = true
		return api.Type{}, false
	}
	element, ok := desc.Element(k.T)
	c.failIf(!ok, api.ErrType)
	return element, ok
}
