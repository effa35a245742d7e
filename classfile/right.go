package classfile

import (
	"slices"

	"crucible/api"
	"crucible/desc"
	"crucible/mutf"
)

// maxIfaces is the most interfaces that a class names.
const maxIfaces = 16

// Methods whose name asks for a form of its own.
const (
	initName   = "<init>"
	clinitName = "<clinit>"
	clinitDesc = "()V"
)

// partsErr is the first error of a file, but for its length as bytes.
func partsErr(f api.File) api.Errno {
	if e := poolErr(f); e != api.OK {
		return e
	}
	if e := classErr(f); e != api.OK {
		return e
	}
	if e := membersErr(f, f.Fields, sameName, fieldHeadErr, extraErr); e != api.OK {
		return e
	}
	return membersErr(f, f.Methods, sameMethod, methodHeadErr, specialErr, bodyErr)
}

// poolErr is the first error of the constants.
func poolErr(f api.File) api.Errno {
	if len(f.Pool) > api.MaxPool {
		return api.ErrMany
	}
	e := api.OK
constants:
	for i := 0; i < len(f.Pool) && e == api.OK; i++ {
		c := f.Pool[i]
		if !rightTag(c) {
			e = api.ErrPool
			continue
		}
		tags := linkTags(c.Tag)
		for j, link := range [3]int{c.A, c.B, c.C} {
			if !rightLink(f, link, tags[j]) {
				e = api.ErrPool
				continue constants
			}
		}
		e = textErr(f, c)
	}
	return e
}

// rightTag tells whether a constant has a tag that there is, and no text and no number beside those of that tag.
func rightTag(c api.Const) bool {
	if c.Text != "" && c.Tag != api.PoolName || c.N != 0 && c.Tag != api.PoolInt {
		return false
	}
	return c.Tag >= api.PoolName && c.Tag <= api.PoolType
}

// linkTags are the tags of the constants that A, B and C of a constant with that tag lead to; 0: not used.
func linkTags(tag int) [3]int {
	switch tag {
	case api.PoolText, api.PoolClass, api.PoolType:
		return [3]int{api.PoolName}
	case api.PoolField, api.PoolMethod:
		return [3]int{api.PoolClass, api.PoolName, api.PoolName}
	}
	return [3]int{}
}

// rightLink tells whether a link leads to a constant with that tag; with the tag 0, whether there is no link.
func rightLink(f api.File, link, tag int) bool {
	if tag == 0 {
		return link == 0
	}
	return has(f, link, tag)
}

// textErr is the error of the texts that a constant holds or leads to.
func textErr(f api.File, c api.Const) api.Errno {
	switch c.Tag {
	case api.PoolName:
		return runesErr(c.Text)
	case api.PoolClass:
		return nameErr(textOf(f, c.A))
	case api.PoolType:
		return typeErr(textOf(f, c.A))
	case api.PoolField:
		return pairErr(f, c.B, c.C, typeErr)
	case api.PoolMethod:
		return pairErr(f, c.B, c.C, sigErr)
	}
	return api.OK
}

// runesErr is the error of the text of a name constant, be it a name or not.
func runesErr(s string) api.Errno {
	if _, e := mutf.Encode(s); e != api.OK {
		return e
	}
	if mutf.Len(s) > api.MaxText {
		return api.ErrLong
	}
	return api.OK
}

func nameErr(s string) api.Errno {
	if !mutf.Name(s) {
		return api.ErrName
	}
	return api.OK
}

func typeErr(s string) api.Errno {
	_, e := desc.Field(s)
	return e
}

func sigErr(s string) api.Errno {
	_, e := desc.Method(s)
	return e
}

// pairErr is the error of a member's name and descriptor, both given by links.
func pairErr(f api.File, name, d int, descErr func(s string) api.Errno) api.Errno {
	if e := nameErr(textOf(f, name)); e != api.OK {
		return e
	}
	return descErr(textOf(f, d))
}

// classErr is the first error of what a file says of the class itself.
func classErr(f api.File) api.Errno {
	switch f.Flags {
	case 0, api.FlagAbstract, api.FlagAbstract | api.FlagInterface:
	default:
		return api.ErrFlags
	}
	if !has(f, f.This, api.PoolClass) || !noneOrClass(f, f.Super) {
		return api.ErrPool
	}
	if len(f.Ifaces) > maxIfaces {
		return api.ErrMany
	}
	for _, i := range f.Ifaces {
		if !has(f, i, api.PoolClass) {
			return api.ErrPool
		}
	}
	return api.OK
}

func noneOrClass(f api.File, i int) bool {
	return i == 0 || has(f, i, api.PoolClass)
}

// memberErr is the error of a part of a member.
type memberErr func(f api.File, m api.Member) api.Errno

// membersErr is the first error of the members l: each in order is asked for the errors of its parts, and then held against those ahead of it.
func membersErr(f api.File, l []api.Member, same func(f api.File, a, b api.Member) bool, parts ...memberErr) api.Errno {
	if len(l) > api.MaxMembers {
		return api.ErrMany
	}
	e := api.OK
members:
	for i := 0; i < len(l) && e == api.OK; i++ {
		for _, part := range parts {
			if e = part(f, l[i]); e != api.OK {
				continue members
			}
		}
		if slices.ContainsFunc(l[:i], func(m api.Member) bool { return same(f, m, l[i]) }) {
			e = api.ErrTwice
		}
	}
	return e
}

// sameName compares texts: two constants may have the same one.
func sameName(f api.File, a, b api.Member) bool {
	return textOf(f, a.Name) == textOf(f, b.Name)
}

func sameMethod(f api.File, a, b api.Member) bool {
	return sameName(f, a, b) && textOf(f, a.Desc) == textOf(f, b.Desc)
}

func fieldHeadErr(f api.File, m api.Member) api.Errno {
	return headErr(f, m, api.FlagStatic, typeErr)
}

func methodHeadErr(f api.File, m api.Member) api.Errno {
	return headErr(f, m, api.FlagAbstract, sigErr)
}

// headErr is the error of a member's flags, which go up to last, of its name, and of its descriptor.
func headErr(f api.File, m api.Member, last int, descErr func(s string) api.Errno) api.Errno {
	if m.Flags < 0 || m.Flags > last || m.Flags == 0 && f.Flags&api.FlagInterface != 0 {
		return api.ErrFlags
	}
	if !has(f, m.Name, api.PoolName) || !has(f, m.Desc, api.PoolName) {
		return api.ErrPool
	}
	return pairErr(f, m.Name, m.Desc, descErr)
}

// extraErr is the error of a member that has a part of a body.
func extraErr(f api.File, m api.Member) api.Errno {
	if m.MaxStack != 0 || m.MaxLocals != 0 || m.Code != "" || len(m.Handlers) > 0 {
		return api.ErrArg
	}
	return api.OK
}

// specialErr is the error of a constructor or a class's initialiser that is not of its form.
func specialErr(f api.File, m api.Member) api.Errno {
	right := true
	switch textOf(f, m.Name) {
	case initName:
		sig, _ := desc.Method(textOf(f, m.Desc))
		right = m.Flags == 0 && sig.Void
	case clinitName:
		right = m.Flags == api.FlagStatic && textOf(f, m.Desc) == clinitDesc
	}
	if !right {
		return api.ErrFlags
	}
	return api.OK
}

// bodyErr is the error of a method's body.
func bodyErr(f api.File, m api.Member) api.Errno {
	switch {
	case m.Flags == api.FlagAbstract:
		return extraErr(f, m)
	case m.MaxStack < 0 || m.MaxStack > api.MaxStack || m.MaxLocals < 0 || m.MaxLocals > api.MaxLocals:
		return api.ErrOver
	case m.Code == "":
		return api.ErrShort
	case len(m.Code) > api.MaxCode:
		return api.ErrLong
	case len(m.Handlers) > api.MaxHandlers:
		return api.ErrMany
	}
	for _, h := range m.Handlers {
		if h.From < 0 || h.From >= h.To || h.To > len(m.Code) || h.At < 0 || h.At >= len(m.Code) {
			return api.ErrArg
		}
		if !noneOrClass(f, h.Class) {
			return api.ErrPool
		}
	}
	return api.OK
}
