package transfer

import (
	"crucible/api"
	"crucible/classfile"
	"crucible/code"
	"crucible/desc"
	"crucible/lattice"
)

// Names of types: that of int itself, and those of built-in classes.
const (
	number    = ""
	object    = "Object"
	text      = "String"
	weak      = "Weak"
	loader    = "Loader"
	throwable = "Throwable"
)

// Names of methods that are not called as others are.
const (
	initName   = "<init>"
	clinitName = "<clinit>"
)

// named is the type without dimensions that has a name.
func named(name string) api.Type { return api.Type{Name: name} }

// own is the name of the method's class.
func (m Method) own() string {
	name, _ := classfile.ClassName(m.F, m.F.This)
	return name
}

// super is the name of the class directly above it.
func (m Method) super() string {
	c, _ := m.H.Find(m.own())
	return c.Super
}

func (m Method) isConstructor() bool { return m.text(m.M.Name) == initName }

// given is what is known of that which the method is called with: its object, its arguments.
func (m Method) given() []api.Known {
	var l []api.Known
	switch {
	case m.M.Flags&api.FlagStatic != 0:
	case m.isConstructor():
		l = append(l, api.Known{Kind: api.KThis})
	default:
		l = append(l, lattice.Of(named(m.own())))
	}
	for _, t := range m.sig(m.M.Desc).Args {
		l = append(l, lattice.Of(t))
	}
	return l
}

// text is the text of a name constant, sig the signature of which it is the descriptor.
func (m Method) text(i int) string {
	s, _ := classfile.Name(m.F, i)
	return s
}

func (m Method) sig(i int) desc.Sig {
	s, _ := desc.Method(m.text(i))
	return s
}

// constant is the constant i, if it has that tag.
func (m Method) constant(i, tag int) (api.Const, bool) {
	if i < 1 || i > len(m.F.Pool) || m.F.Pool[i-1].Tag != tag {
		return api.Const{}, false
	}
	return m.F.Pool[i-1], true
}

// makes tells whether the instruction at pc is a new of that class.
func (m Method) makes(class string, pc int) bool {
	i := code.Index(m.L, pc)
	if i < 0 || m.L[i].Op != api.New {
		return false
	}
	name, ok := classfile.ClassName(m.F, m.L[i].N)
	return ok && name == class
}
