package layout

import (
	"slices"

	"crucible/api"
	"crucible/classfile"
	"crucible/hier"
)

// areOwn tells whether files are right, and those of a table's own classes.
func areOwn(h *hier.Table, files []api.File) bool {
	own := 0
	for _, name := range h.Names() {
		if c, _ := h.Find(name); c.Own {
			own++
		}
	}
	if own != len(files) {
		return false
	}
	for at, f := range files {
		if classfile.Right(f) != api.OK {
			return false
		}
		if c, _ := h.Find(nameOf(f)); !c.Own || c.At != at {
			return false
		}
	}
	return true
}

// describesOthers tells whether all classes of a table that are neither own nor built-in ones are described; nothing is where there is no layout.
func (l *Layout) describesOthers(h *hier.Table) bool {
	for _, name := range h.Names() {
		c, _ := h.Find(name)
		if !c.Own && !isBuiltin(c) && (l == nil || l.classes[name] == nil) {
			return false
		}
	}
	return true
}

func isBuiltin(c hier.Class) bool { return c.At < 0 }

// nameOf is the name of the class of a file.
func nameOf(f api.File) string {
	s, _ := classfile.ClassName(f, f.This)
	return s
}

// making is a layout that is being made.
type making struct {
	h         *hier.Table
	files     []api.File
	up        *Layout
	described map[string]*class
}

// class is the class of a name, which is described when it is asked for the first time: those directly above it, which may be behind it in the files, are asked for ahead of it. (The table has no class that is above itself.)
func (m *making) class(name string) *class {
	known, ok := m.h.Find(name)
	if c := m.described[name]; c != nil || !ok {
		return c
	}
	c := &class{super: m.class(known.Super)}
	for _, i := range known.Ifaces {
		c.ifaces = append(c.ifaces, m.class(i))
	}
	switch {
	case known.Own:
		c.fields = fieldsOf(known.Name, m.files[known.At], c.super)
	case isBuiltin(known):
		c.fields = &fields{Class: Class{Name: known.Name}}
	default:
		c.fields = m.up.classes[name].fields
	}
	m.described[name] = c
	return c
}

// fault is the error of the fields of a file's class. A right file has no more fields than there may be static ones, so that only the others, with those of the classes above, can be too many.
func (m *making) fault(f api.File) api.Errno {
	c := m.described[nameOf(f)]
	inherited := len(c.super.Slots)
	switch {
	case slices.ContainsFunc(c.Slots[inherited:], m.isUnknown) || slices.ContainsFunc(c.Statics, m.isUnknown):
		return api.ErrType
	case len(c.Slots) > api.MaxMembers:
		return api.ErrMany
	}
	return api.OK
}

// isUnknown tells whether a field's type has the name of no class of the table.
func (m *making) isUnknown(s Slot) bool {
	return s.T.Name != "" && m.described[s.T.Name] == nil
}
