package hier

import (
	"maps"
	"slices"
	"strings"

	"crucible/api"
	"crucible/classfile"
)

// Names of built-in classes.
const (
	object    = "Object"
	text      = "String"
	weak      = "Weak"
	loader    = "Loader"
	throwable = "Throwable"
)

// builtins are the built-in classes, each behind the one that is directly above it.
var builtins = [...]struct{ name, super string }{
	{object, ""},
	{text, object}, {weak, object}, {loader, object}, {throwable, object},
	{"Null", throwable}, {"Arith", throwable}, {"Bounds", throwable}, {"Size", throwable}, {"Cast", throwable},
	{"Store", throwable}, {"Monitor", throwable}, {"NoClass", throwable}, {"Deep", throwable},
}

// class is what is kept of a class.
type class struct {
	Class           // Own is told by Find
	place  int      // in the order of Names
	super  *class   // nil: of Object
	ifaces []*class // in the order of Ifaces
	above  set      // the places of all classes above it
}

// builtinTable is the table of the built-in classes alone.
func builtinTable() *Table {
	t := new(Table).extended()
	for _, b := range builtins {
		t.add(&class{Class: Class{Name: b.name, Super: b.super, At: -1}, super: t.named[b.super]})
	}
	fillAbove(t.all, len(t.all))
	return t
}

// extended is a table of the classes of t, to which own ones may be added.
func (t *Table) extended() *Table {
	n := &Table{all: slices.Clone(t.all), named: map[string]*class{}, own: len(t.all)}
	maps.Copy(n.named, t.named)
	return n
}

// add adds a class, and tells whether there was none of its name.
func (t *Table) add(c *class) bool {
	if t.named[c.Name] != nil {
		return false
	}
	c.place = len(t.all)
	t.all = append(t.all, c)
	t.named[c.Name] = c
	return true
}

// addFile adds the class of a file, of which nothing but its names leads to others yet.
func (t *Table) addFile(f api.File, at int) api.Errno {
	if e := classfile.Right(f); e != api.OK {
		return e
	}
	if !t.add(&class{Class: classOf(f, at)}) {
		return api.ErrTwice
	}
	return api.OK
}

// classOf is what a right file says of its class.
func classOf(f api.File, at int) Class {
	c := Class{
		Name:     className(f, f.This),
		Super:    className(f, f.Super),
		Iface:    f.Flags&api.FlagInterface != 0,
		Abstract: f.Flags&api.FlagAbstract != 0,
		At:       at,
	}
	for _, i := range f.Ifaces {
		c.Ifaces = append(c.Ifaces, className(f, i))
	}
	return c
}

// className is the text of a class constant; empty, which no class is named, where the link is 0.
func className(f api.File, i int) string {
	s, _ := classfile.ClassName(f, i)
	// A copy: a piece would keep all that it was cut from.
	return strings.Clone(s)
}

// linkUp leads a class to those directly above it, or answers why it can't be below them.
func (t *Table) linkUp(c *class) api.Errno {
	c.super = t.named[c.Super]
	for _, name := range c.Ifaces {
		c.ifaces = append(c.ifaces, t.named[name])
	}
	switch {
	case c.super == nil || slices.Contains(c.ifaces, nil):
		return api.ErrClass
	case c.super.Iface || isSealed(c.Super) || c.Iface && c.Super != object:
		return api.ErrKind
	case slices.ContainsFunc(c.ifaces, isClass):
		return api.ErrKind
	}
	return api.OK
}

func isSealed(name string) bool { return name == text || name == weak || name == loader }

func isClass(c *class) bool { return !c.Iface }
