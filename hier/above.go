package hier

// fillAbove tells classes which ones are above them: those directly above, and what is above these, until nothing new comes. (So it ends where classes are above themselves, too.) What is above all others, of so many in the table, is known already.
func fillAbove(l []*class, classes int) {
	for _, c := range l {
		c.above = newSet(classes)
	}
	for grown := true; grown; {
		grown = false
		for _, c := range l {
			grown = c.takeAbove() || grown
		}
	}
}

// takeAbove adds what is now known to be above a class, and tells whether any of it is new.
func (c *class) takeAbove() bool {
	grown := c.super != nil && c.above.addUp(c.super)
	for _, d := range c.ifaces {
		grown = c.above.addUp(d) || grown
	}
	return grown
}

func inCycle(c *class) bool { return c.under(c) }

// under tells whether d is above c.
func (c *class) under(d *class) bool { return c.above.has(d.place) }

// common is the first class of a's chain that is in b's too. None of both is an interface, so those in b's chain are the classes above b that are none either: what is above an interface is an interface, or Object.
func common(a, b *class) *class {
	for a != b && !b.under(a) {
		a = a.super
	}
	return a
}

// set is a set of places, each a bit.
type set []uint64

func newSet(places int) set { return make(set, (places+63)/64) }

func (s set) has(place int) bool {
	return place/64 < len(s) && s[place/64]>>(place%64)&1 != 0
}

// addUp adds the place of a class and those above it, and tells whether any of them is new.
func (s set) addUp(c *class) bool {
	grown := !s.has(c.place)
	s[c.place/64] |= 1 << (c.place % 64)
	for i, w := range c.above {
		grown = grown || w&^s[i] != 0
		s[i] |= w
	}
	return grown
}
