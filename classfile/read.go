package classfile

import (
	"strings"

	"crucible/api"
	"crucible/mutf"
)

// reader reads a file from the front: what is left of its bytes, and the first error.
// From an error on, it reads zeros.
type reader struct {
	rest string
	e    api.Errno
}

// fail keeps an error, if it is the first one.
func (r *reader) fail(e api.Errno) {
	if r.e == api.OK {
		r.e = e
	}
}

// take cuts n bytes off the front.
func (r *reader) take(n int) string {
	if n > len(r.rest) {
		r.fail(api.ErrShort)
	}
	if r.e != api.OK {
		return ""
	}
	s := r.rest[:n]
	r.rest = r.rest[n:]
	return s
}

// number reads a number of so many bytes. Eight of them are an int in two's complement.
func (r *reader) number(bytes int) int {
	n := 0
	for _, c := range []byte(r.take(bytes)) {
		n = n<<8 | int(c)
	}
	return n
}

func (r *reader) link() int { return r.number(2) }

// list reads how many items there are, from so many bytes, and each of them.
func list[T any](r *reader, bytes int, item func() T) []T {
	var l []T
	for n := r.number(bytes); len(l) < n && r.e == api.OK; {
		l = append(l, item())
	}
	return l
}

func (r *reader) file() api.File {
	if r.take(len(magic)) != magic {
		// Bytes that are too few for it have failed already.
		r.fail(api.ErrForm)
	}
	var f api.File
	f.Pool = list(r, 2, r.constant)
	f.Flags = r.number(1)
	f.This = r.link()
	f.Super = r.link()
	f.Ifaces = list(r, 1, r.link)
	f.Fields = list(r, 1, r.head)
	f.Methods = list(r, 1, r.method)
	return f
}

func (r *reader) constant() api.Const {
	c := api.Const{Tag: r.number(1)}
	switch c.Tag {
	case api.PoolName:
		c.Text = r.name()
	case api.PoolInt:
		c.N = r.number(8)
	case api.PoolText, api.PoolClass, api.PoolType:
		c.A = r.link()
	case api.PoolField, api.PoolMethod:
		c.A = r.link()
		c.B = r.link()
		c.C = r.link()
	default:
		r.fail(api.ErrForm)
	}
	return c
}

// text reads how many bytes there are, from two bytes, and them.
func (r *reader) text() string { return r.take(r.number(2)) }

// name reads the text of a name constant.
func (r *reader) name() string {
	s, e := mutf.Decode(r.text())
	if e != api.OK {
		r.fail(e)
	}
	return s
}

// head reads what a field and a method have in common.
func (r *reader) head() api.Member {
	var m api.Member
	m.Flags = r.number(1)
	m.Name = r.link()
	m.Desc = r.link()
	return m
}

func (r *reader) method() api.Member {
	m := r.head()
	if m.Flags == api.FlagAbstract {
		return m
	}
	m.MaxStack = r.number(1)
	m.MaxLocals = r.number(1)
	// A copy: a piece would keep all bytes of the file.
	m.Code = strings.Clone(r.text())
	m.Handlers = list(r, 1, r.handler)
	return m
}

func (r *reader) handler() api.Handler {
	var h api.Handler
	h.From = r.link()
	h.To = r.link()
	h.At = r.link()
	h.Class = r.link()
	return h
}
