package transfer

import (
	"slices"
	"strconv"
	"strings"
	"testing"

	"crucible/api"
	"crucible/classfile"
	"crucible/code"
	"crucible/hier"
)

// pool are the constants of a file that grows.
type pool struct{ l []api.Const }

// add is the number of a constant, be it there or new.
func (p *pool) add(c api.Const) int {
	if i := slices.Index(p.l, c); i >= 0 {
		return i + 1
	}
	p.l = append(p.l, c)
	return len(p.l)
}

func (p *pool) name(s string) int  { return p.add(api.Const{Tag: api.PoolName, Text: s}) }
func (p *pool) class(s string) int { return p.add(api.Const{Tag: api.PoolClass, A: p.name(s)}) }

func (p *pool) number(s string) int {
	n, err := strconv.Atoi(s)
	if err != nil {
		panic(s)
	}
	return p.add(api.Const{Tag: api.PoolInt, N: n})
}

// member is the number of a constant of the form A.x I or A.m ()V.
func (p *pool) member(tag int, s string) int {
	class, rest, _ := strings.Cut(s, ".")
	name, desc, _ := strings.Cut(rest, " ")
	return p.add(api.Const{Tag: tag, A: p.class(class), B: p.name(name), C: p.name(desc)})
}

// link is the number of a constant with that tag, or, of the form #7, a number by itself.
func (p *pool) link(tag int, s string) int {
	if n, ok := strings.CutPrefix(s, "#"); ok {
		i, err := strconv.Atoi(n)
		if err != nil {
			panic(s)
		}
		return i
	}
	switch tag {
	case api.PoolName:
		return p.name(s)
	case api.PoolInt:
		return p.number(s)
	case api.PoolClass:
		return p.class(s)
	case api.PoolText, api.PoolType:
		return p.add(api.Const{Tag: tag, A: p.name(s)})
	}
	return p.member(tag, s)
}

// tagOf is the tag of the constants that an op leads to.
func tagOf(op int) int {
	switch op {
	case api.Int:
		return api.PoolInt
	case api.Text:
		return api.PoolText
	case api.New:
		return api.PoolClass
	case api.Array, api.Cast, api.Is:
		return api.PoolType
	case api.Get, api.Put, api.Sget, api.Sput:
		return api.PoolField
	}
	return api.PoolMethod
}

// instr is the instruction of a text: an op, what it has, and its place behind an @. A link may have its tag ahead of it: int 4:A is one to the class A.
func (p *pool) instr(s string) api.Instr {
	s, place, _ := strings.Cut(s, " @")
	name, rest, _ := strings.Cut(s, " ")
	op, ok := code.Op(name)
	if !ok {
		panic(s)
	}
	x := api.Instr{Op: op}
	x.Pc, _ = strconv.Atoi(place)
	switch code.Form(op) {
	case 'n':
		tag := tagOf(op)
		if len(rest) > 1 && rest[1] == ':' {
			tag, rest = int(rest[0]-'0'), rest[2:]
		}
		x.N = p.link(tag, rest)
	case 'b':
		x.N, _ = strconv.Atoi(rest)
	case 's':
		for _, k := range strings.Fields(rest) {
			x.Keys = append(x.Keys, p.link(api.PoolInt, k))
		}
	}
	return x
}

// typ is the type of a short form: so many brackets, and a name; no name is int.
func typ(s string) api.Type {
	name := strings.TrimLeft(s, "[")
	return api.Type{Dims: len(s) - len(name), Name: name}
}

// known is the known of a short form: top, int, null, this, new and a place, or the type of a REF.
func known(s string) api.Known {
	switch s {
	case "top":
		return api.Known{}
	case "int":
		return api.Known{Kind: 1}
	case "null":
		return api.Known{Kind: 2}
	case "this":
		return api.Known{Kind: 5}
	}
	if n, ok := strings.CutPrefix(s, "new"); ok {
		pc, err := strconv.Atoi(n)
		if err != nil {
			panic(s)
		}
		return api.Known{Kind: 4, N: pc}
	}
	return api.Known{Kind: 3, T: typ(s)}
}

func show(k api.Known) string {
	if s := [6]string{"top", "int", "null", "", "new" + strconv.Itoa(k.N), "this"}[k.Kind]; s != "" {
		return s
	}
	return strings.Repeat("[", k.T.Dims) + k.T.Name
}

// state is the state of a short form: its locals, a bar, its stack.
func state(s string) api.State {
	locals, stack, _ := strings.Cut(s, "|")
	return api.State{Locals: knowns(locals), Stack: knowns(stack)}
}

func knowns(s string) []api.Known {
	var l []api.Known
	for _, f := range strings.Fields(s) {
		l = append(l, known(f))
	}
	return l
}

func showState(s api.State) string {
	var l []string
	for _, k := range s.Locals {
		l = append(l, show(k))
	}
	l = append(l, "|")
	for _, k := range s.Stack {
		l = append(l, show(k))
	}
	return strings.Join(l, " ")
}

var errorNames = map[api.Errno]string{
	api.ErrLocal: "ErrLocal", api.ErrStack: "ErrStack", api.ErrType: "ErrType", api.ErrPool: "ErrPool", api.ErrArg: "ErrArg",
	api.ErrClass: "ErrClass", api.ErrKind: "ErrKind", api.ErrDesc: "ErrDesc", api.ErrInit: "ErrInit",
}

// answer is an answer as a text: a state, none, or an error.
func answer(t testing.TB, s api.State, follows bool, e api.Errno) string {
	t.Helper()
	if follows && e == api.OK {
		return showState(s)
	}
	if follows || len(s.Locals)+len(s.Stack) > 0 {
		t.Errorf("%v %v beside %v", s, follows, e)
	}
	if e == api.OK {
		return "none"
	}
	if errorNames[e] == "" {
		t.Error("no error of this layer:", e)
	}
	return errorNames[e]
}

// file is the file of a class.
func file(flags int, name, super string, ifaces ...string) api.File {
	var p pool
	f := api.File{Flags: flags, This: p.class(name), Super: p.class(super)}
	for _, i := range ifaces {
		f.Ifaces = append(f.Ifaces, p.class(i))
	}
	f.Pool = p.l
	return f
}

// sample is a table of the class B of the tests' methods, A above it, D below it, C beside it; Q and R above it are abstract, E is below Throwable, I and J above it are interfaces.
func sample(t testing.TB) *hier.Table {
	t.Helper()
	h, e, at := hier.New([]api.File{
		file(0, "A", "R", "I"), file(0, "B", "A"), file(0, "C", "A"), file(0, "D", "B", "J"), file(2, "Q", "Object"), file(2, "R", "Object"),
		file(0, "E", "Throwable"), file(0, "F", "E"), file(3, "I", "Object"), file(3, "J", "Object", "I"),
	})
	if e != api.OK {
		t.Fatal(e, at)
	}
	return h
}

// bench is a method of class B that instructions are tried in.
type bench struct {
	pool
	h             *hier.Table
	flags         int
	name, desc    string
	stack, locals int
	body          string
}

// body is what the code of a method is when nothing else is said: news at 0, 3, 6 and 9, and what is none at 12, 15 and 18.
const body = "new A @0, new B @3, new nowhere @6, new Object @9, array 4:A @12, new 1:A @15, ret @18"

func newBench(t testing.TB, flags int, name, desc string) *bench {
	return &bench{h: sample(t), flags: flags, name: name, desc: desc, stack: 4, locals: 3, body: body}
}

// method is the method, whose file is right.
func (b *bench) method(t testing.TB) Method {
	t.Helper()
	var l []api.Instr
	for _, s := range strings.Split(b.body, ", ") {
		l = append(l, b.instr(s))
	}
	text, e := code.Encode(l)
	if e != api.OK {
		t.Fatal(e)
	}
	m := api.Member{Flags: b.flags, Name: b.pool.name(b.name), Desc: b.pool.name(b.desc), MaxStack: b.stack, MaxLocals: b.locals, Code: text}
	f := api.File{This: b.class("B"), Super: b.class("A"), Methods: []api.Member{m}}
	f.Pool = slices.Clone(b.l)
	if e := classfile.Right(f); e != api.OK {
		t.Fatal(e)
	}
	l, _ = code.Decode(text)
	return Method{F: f, M: m, H: b.h, L: l}
}

// row is an instruction, the state ahead of it, and the answer.
type row struct{ x, ahead, want string }

// wantRows holds the answers of Step.
func (b *bench) wantRows(t *testing.T, rows ...row) {
	t.Helper()
	for _, r := range rows {
		x := b.instr(r.x)
		s, follows, e := Step(b.method(t), x, state(r.ahead))
		want := r.want
		if strings.Contains(want, "|") {
			want = showState(state(want))
		}
		if got := answer(t, s, follows, e); got != want {
			t.Errorf("%s: %s with %s: %s; want %s", b.name, r.x, r.ahead, got, want)
		}
	}
}
