package layout

import (
	"slices"
	"strings"

	"crucible/api"
	"crucible/classfile"
	"crucible/desc"
)

// class is a class of a table: its fields, and the classes that have others of its fields.
type class struct {
	*fields
	super  *class // nil: of Object
	ifaces []*class
}

// fields are a class's fields, and where those are that it declares itself.
type fields struct {
	Class
	own map[field]place
}

// field is what a field is known by.
type field struct {
	name string
	t    api.Type
}

// place is where a field is: at an index among the Slots or the Statics of the class that declares it.
type place struct {
	class  string
	at     int
	static bool
}

// fieldsOf are the fields of the class of a right file, below super.
func fieldsOf(name string, f api.File, super *class) *fields {
	c := &fields{
		Class: Class{Name: name, Slots: slices.Clone(super.Slots), Refs: slices.Clone(super.Refs)},
		own:   map[field]place{},
	}
	for _, m := range f.Fields {
		s := slotOf(name, f, m)
		p := place{class: name, at: len(c.Slots)}
		if m.Flags&api.FlagStatic != 0 {
			p.at, p.static = len(c.Statics), true
			c.Statics = append(c.Statics, s)
		} else {
			c.Slots = append(c.Slots, s)
			c.Refs = append(c.Refs, desc.IsRef(s.T))
		}
		c.own[field{s.Name, s.T}] = p
	}
	return c
}

// slotOf is a field of a right file as its class declares it.
func slotOf(class string, f api.File, m api.Member) Slot {
	name, _ := classfile.Name(f, m.Name)
	d, _ := classfile.Name(f, m.Desc)
	t, _ := desc.Field(d)
	// Copies: a piece would keep all that it was cut from.
	t.Name = strings.Clone(t.Name)
	return Slot{Class: class, Name: strings.Clone(name), T: t}
}

// search looks for a field.
type search struct {
	wanted field
	// The interfaces that were asked already: many ways may lead up to the same one, and where the search goes on, it has none.
	asked map[string]struct{}
}

// from is where a class has the field, and whether it has one. No class has none.
func (s search) from(c *class) (place, bool) {
	for ; c != nil; c = c.super {
		if p, ok := c.own[s.wanted]; ok {
			return p, true
		}
		if p, ok := s.fromIfaces(c.ifaces); ok {
			return p, true
		}
	}
	return place{}, false
}

// fromIfaces is that of the first interface that has the field.
func (s search) fromIfaces(l []*class) (place, bool) {
	for _, i := range l {
		if _, ok := s.asked[i.Name]; ok {
			continue
		}
		s.asked[i.Name] = struct{}{}
		if p, ok := s.from(i); ok {
			return p, true
		}
	}
	return place{}, false
}
