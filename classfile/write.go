package classfile

import (
	"crucible/api"
	"crucible/mutf"
)

// magic is what each file begins with.
const magic = "CRUX"

// appendFile adds the bytes of a file to b. The file's parts have no error, so each number fits into its bytes.
func appendFile(b []byte, f api.File) []byte {
	b = append(b, magic...)
	b = appendList(b, 2, f.Pool, appendConst)
	b = appendNumber(b, 1, f.Flags)
	b = appendLinks(b, f.This, f.Super)
	b = appendList(b, 1, f.Ifaces, func(b []byte, i int) []byte { return appendLinks(b, i) })
	b = appendList(b, 1, f.Fields, appendHead)
	return appendList(b, 1, f.Methods, appendMethod)
}

// appendNumber adds a number of so many bytes to b.
func appendNumber(b []byte, bytes, n int) []byte {
	for i := bytes - 1; i >= 0; i-- {
		b = append(b, byte(n>>(8*i)))
	}
	return b
}

func appendLinks(b []byte, links ...int) []byte {
	for _, i := range links {
		b = appendNumber(b, 2, i)
	}
	return b
}

// appendList adds how many items a list has, in so many bytes, and each of them.
func appendList[T any](b []byte, bytes int, l []T, item func(b []byte, x T) []byte) []byte {
	b = appendNumber(b, bytes, len(l))
	for _, x := range l {
		b = item(b, x)
	}
	return b
}

func appendConst(b []byte, c api.Const) []byte {
	b = appendNumber(b, 1, c.Tag)
	switch c.Tag {
	case api.PoolName:
		// The text has been encoded once, without an error.
		s, _ := mutf.Encode(c.Text)
		return appendText(b, s)
	case api.PoolInt:
		return appendNumber(b, 8, c.N)
	case api.PoolField, api.PoolMethod:
		return appendLinks(b, c.A, c.B, c.C)
	}
	return appendLinks(b, c.A)
}

// appendText adds how many bytes s has, in two bytes, and s.
func appendText(b []byte, s string) []byte {
	return append(appendNumber(b, 2, len(s)), s...)
}

// appendHead adds what a field and a method have in common.
func appendHead(b []byte, m api.Member) []byte {
	return appendLinks(appendNumber(b, 1, m.Flags), m.Name, m.Desc)
}

func appendMethod(b []byte, m api.Member) []byte {
	b = appendHead(b, m)
	if m.Flags == api.FlagAbstract {
		return b
	}
	b = appendNumber(b, 1, m.MaxStack)
	b = appendNumber(b, 1, m.MaxLocals)
	b = appendText(b, m.Code)
	return appendList(b, 1, m.Handlers, appendHandler)
}

func appendHandler(b []byte, h api.Handler) []byte {
	return appendLinks(b, h.From, h.To, h.At, h.Class)
}
