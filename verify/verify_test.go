package verify

import (
	"math"
	"strings"
	"testing"

	"crucible/api"
	"crucible/hier"
)

// The document's examples.
func TestExamples(t *testing.T) {
	wantRows(t, []row{
		{static("null, store 0, ret"), "top|, top|null, null|"},
		{static("top: null, store 0, load 0, ifnull top, ret"), "top|, top|null, null|, null|null, null|"},
		{static("pop, ret"), "ErrStack 0"},
		{static("null, null, add, ret"), "ErrType 2"},
	})
}

func TestV1Start(t *testing.T) {
	wantRows(t, []row{
		{method{flags: 1, body: "ret"}, "|"},
		{method{flags: 1, locals: 2, body: "ret"}, "top top|"},
		{method{locals: 1, body: "ret"}, "B|"},
		{method{locals: 4, desc: "(ILA;)V", body: "ret"}, "B int A top|"},
		{method{flags: 1, locals: 4, stack: 1, desc: "([I[[LC;LI;)I", body: "int 1, vret"}, "[int [[C I top|, [int [[C I top|int"},
		{method{name: "<init>", stack: 1, locals: 1, body: "load 0, spec A.<init> ()V, ret"}, "this|, this|this, B|"},
		{method{name: "<init>", locals: 1, body: "ret"}, "ErrInit 0"},
		{method{body: "ret"}, "ErrLocal 0"},
		{method{body: "nop, pop, ret"}, "ErrLocal 0"}, // ahead of all instructions
		{method{flags: 1, locals: 1, desc: "(II)V", body: "ret"}, "ErrLocal 0"},
	})
}

// codeRow is a code that is not right, or whose handlers are not.
type codeRow struct {
	code     string
	handlers []api.Handler
	locals   int
	want     string
}

func TestV1Code(t *testing.T) {
	h := sample(t)
	good, bad := api.Handler{To: 1}, api.Handler{From: 1, To: 2}
	for _, r := range []codeRow{
		{"\x00", nil, 1, "ErrEnd 0"},
		{"\x00\x00\x00", nil, 1, "ErrEnd 0"},
		{"\x2c\x40", nil, 1, "ErrOp 0"},
		{"\x2c\x14\x00", nil, 1, "ErrShort 0"},
		{"\x00\x14\x00\x04\x2c", nil, 1, "ErrJump 0"}, // to 5, where nothing is
		{"\x2c\x06", nil, 1, "ErrEnd 0"},              // though it is not reached
		{"\x04\x00\x2c", []api.Handler{good}, 1, "ErrJump 0"},
		{"\x04\x00\x2c", []api.Handler{bad}, 1, "ErrJump 0"},
		{"\x04\x00\x2c", []api.Handler{{To: 2, At: 1}}, 1, "ErrJump 0"},
		{"\x2c\x04\x00\x2c", []api.Handler{{To: 1}, {From: 1, To: 2}}, 1, "ErrJump 0"}, // though nothing that it covers is reached
		{"\xff", []api.Handler{good}, 0, "ErrOp 0"},                                    // the code's error first
		{"\x04\x00\x00", []api.Handler{bad}, 0, "ErrEnd 0"},
		{"\x04\x00\x2c", []api.Handler{bad}, 0, "ErrJump 0"}, // then the handlers'
		{"\x04\x00\x2c", nil, 0, "ErrLocal 0"},
		{"", nil, 1, "ErrArg 0"}, // no right file has it
		{strings.Repeat("\x00", 4096) + "\x2c", nil, 1, "ErrArg 0"},
		{"\x2c", []api.Handler{{To: 2}}, 1, "ErrArg 0"},
	} {
		f := fileOf(t, method{locals: r.locals, body: "ret"})
		f.Methods[0].Code, f.Methods[0].Handlers = r.code, r.handlers
		x, e, pc := Method(h, f, 0)
		if got := answer(t, x, e, pc); got != r.want {
			t.Errorf("%x with %v: %s; want %s", r.code, r.handlers, got, r.want)
		}
		l, fe, at, pc := File(h, f)
		if fe != e || at != 0 || pc != 0 || len(l) > 0 {
			t.Errorf("File: %x with %v: %v %v %v", r.code, r.handlers, fe, at, pc)
		}
	}
}

func TestV1Flow(t *testing.T) {
	wantRows(t, []row{
		{static("goto last, pop, last: ret"), "top|, -, top|"}, // what is not reached may be wrong
		{static("ret, pop, goto 0"), "top|, -, -"},
		{static("here: goto here"), "top|"},
		{static("null, throw, pop, ret"), "top|, top|null, -, -"},
		{static("int 1, switch b 3 a 5 b, nop, a: null, store 0, ret, b: ret"), "top|, top|int, -, top|, top|null, null|, top|"},
		{static("int 1, switch a, a: ret"), "top|, top|int, top|"},
		{static("int 1, ifeq here, here: ret"), "top|, top|int, top|"},
		{method{flags: 1, stack: 2, desc: "()I", body: "int 1, int 2, cmplt less, int 3, vret, less: int 4, vret"}, "|, |int, |int int, |, |int, |, |int"},
		{static("int 1, pop, pop, ret"), "ErrStack 4"},
		{static("int 1, int 1, int 1, ret"), "ErrStack 6"},
		{static("load 0, ret"), "ErrType 0"},
		{static("null, store 1, ret"), "ErrLocal 1"},
		{static("nop, new I, ret"), "ErrKind 1"},
		{static("nop, new nowhere, ret"), "ErrClass 1"},
		{static("null, cast I, ret"), "ErrType 1"},
		{static("int 1, array [[[[I, ret"), "ErrDesc 3"},
		{static("int 1, switch a 5 a 5 a, a: ret"), "ErrArg 3"},
		{static("new A, load 0, ret"), "ErrType 3"},
	})
}

// Nothing follows an aget or an aput of NULL.
func TestV1Null(t *testing.T) {
	three := func(body string) method { return method{flags: 1, stack: 3, locals: 1, desc: "([LA;)V", body: body} }
	wantRows(t, []row{
		{static("null, int 1, aget, pop, pop, ret"), "top|, top|null, top|null int, -, -, -"},
		{three("null, int 1, null, aput, pop, ret"), "[A|, [A|null, [A|null int, [A|null int null, -, -"},
		{three("load 0, int 1, aget, store 0, ret"), "[A|, [A|[A, [A|[A int, [A|A, A|"},
		{three("load 0, int 1, aget, pop, null, store 0, goto 0"), "[A|, [A|[A, [A|[A int, [A|A, [A|, [A|null, null|"}, // an array and NULL are the array
		{method{flags: 1, stack: 2, locals: 1, body: "null, int 1, here: aget, ret, at: pop, ret", handlers: "here at at Null"}, "top|, top|null, top|null int, -, top|Null, top|"},
	})
}

func TestV1Joins(t *testing.T) {
	wantRows(t, []row{
		{static("null, ifnull c, null, cast LB;, goto both, c: null, cast LC;, both: store 0, ret"), "top|, top|null, top|, top|null, top|B, top|, top|null, top|A, A|"},
		{static("null, store 0, null, ifnull both, int 1, store 0, both: ret"), "top|, top|null, null|, null|null, null|, null|int, top|"},
		{static("null, store 0, null, ifnull both, int 1, store 0, both: load 0, ret"), "ErrType 12"},
		{static("null, ifnull c, null, cast [LB;, goto both, c: null, cast [LC;, both: store 0, ret"), "top|, top|null, top|, top|null, top|[B, top|, top|null, top|[A, [A|"},
		{static("null, ifnull c, null, cast LD;, goto both, c: null, cast LJ;, both: store 0, ret"), "top|, top|null, top|, top|null, top|D, top|, top|null, top|Object, Object|"},
		{static("null, ifnull c, null, cast LJ;, goto both, c: null, cast LD;, both: store 0, ret"), "top|, top|null, top|, top|null, top|J, top|, top|null, top|Object, Object|"}, // though D is below J
		// Stacks of different lengths: the place is that of the instruction ahead.
		{static("null, ifnull two, null, goto both, two: nop, both: ret"), "ErrStack 8"},
		{static("null, ifnull two, nop, goto both, two: null, both: ret"), "ErrStack 8"},
		{static("null, goto 0"), "ErrStack 1"},
		{static("null, nop, null, ifnull 1, ret"), "top|, top|null, top|null, top|null null, top|null"},
		{static("null, nop, null, null, ifnull 1, ret"), "ErrStack 3"}, // three are too many
		{static("null, nop, null, dup, ifnull 1, ret"), "ErrStack 3"},
		{static("null, here: nop, ifnull here, ret"), "ErrStack 2"},
		{method{flags: 1, stack: 3, body: "null, here: dup, dup, ifnull here, ret"}, "ErrStack 3"},
		// A jump to itself.
		{static("null, null, here: ifnull here, ret"), "ErrStack 2"},
		{static("null, null, here: switch 0, ret"), "ErrType 2"},
	})
}

func TestV1Loops(t *testing.T) {
	wantRows(t, []row{
		{static("null, store 0, top: load 0, pop, int 5, store 0, goto top"), "ErrType 3"}, // in the second round
		{static("null, cast LB;, store 0, top: load 0, ifnull end, null, cast LC;, store 0, goto top, end: ret"), "top|, top|null, top|B, A|, A|A, A|, A|null, A|C, C|, A|"},
		{static("null, cast LB;, store 0, top: load 0, get B.x I, pop, null, cast LC;, store 0, goto top"), "ErrType 8"}, // a B no more
		{static("null, cast LB;, store 0, top: load 0, get A.x I, pop, null, cast LC;, store 0, goto top"), "top|, top|null, top|B, A|, A|A, A|int, A|, A|null, A|C, C|"},
		// What was known in the first round is carried on by steps: a value moves through the locals.
		{method{flags: 1, stack: 1, locals: 3, desc: "(LB;LB;LB;)V", body: "top: load 1, store 0, load 2, store 1, null, cast LC;, store 2, goto top"},
			"A A A|, A A A|A, A A A|, A A A|A, A A A|, A A A|null, A A A|C, A A C|"},
		{method{flags: 1, stack: 1, locals: 3, desc: "(LB;LB;LB;)V", body: "top: load 0, get B.x I, pop, load 1, store 0, load 2, store 1, null, cast LC;, store 2, goto top"}, "ErrType 2"}, // in the fourth round
		// Objects that are not initialised.
		{static("top: new A, dup, spec A.<init> ()V, store 0, goto top"), "top|, top|new0, top|new0 new0, top|A, A|"},
		{static("top: new A, store 0, goto top"), "top|, top|new0, new0|"},
		{static("new A, store 0, load 0, spec A.<init> ()V, load 0, store 0, goto 0"), "top|, top|new0, new0|, new0|new0, A|, A|A, A|"},
		{static("nop, new A, goto 0"), "ErrStack 4"},
		{static("null, ifnull b, new A, goto both, b: new A, both: spec A.<init> ()V, ret"), "ErrInit 13"}, // two are TOP
		{static("null, here: pop, new A, goto here"), "top|, top|top, top|, top|new2"},
	})
}

func TestV1Handlers(t *testing.T) {
	with := func(body, handlers string) method {
		return method{flags: 1, stack: 1, locals: 1, body: body, handlers: handlers}
	}
	wantRows(t, []row{
		{with("nop, ret, at: pop, ret", "0 1 at"), "top|, top|, top|Throwable, top|"},
		{with("nop, ret, at: store 0, ret", "0 1 at E"), "top|, top|, top|E, E|"},
		{with("nop, ret, at: store 0, ret", "0 1 at E, 0 1 at F"), "top|, top|, top|E, E|"},
		{with("nop, ret, at: store 0, ret", "0 1 at F, 1 2 at G"), "top|, top|, top|E, E|"},
		{with("nop, ret, at: store 0, ret", "0 1 at F, 1 2 at Deep"), "top|, top|, top|Throwable, Throwable|"},
		{with("ret, at: pop, ret", "0 1 at"), "top|, top|Throwable, top|"},                                           // a ret may throw, too
		{with("here: ret, at: pop, ret", "at end at"), "top|, -, -"},                                                 // nothing that it covers is reached
		{with("ret, b: pop, ret, at: pop, ret", "b at at, 0 1 b"), "top|, top|Throwable, top|, top|Throwable, top|"}, // one behind the other
		// The locals are those ahead of the instruction.
		{with("null, here: store 0, ret, at: pop, ret", "here 3 at"), "top|, top|null, null|, top|Throwable, top|"},
		{with("null, store 0, here: nop, ret, at: pop, ret", "here 4 at"), "top|, top|null, null|, null|, null|Throwable, null|"},
		{with("null, here: store 0, nop, ret, at: pop, ret", "here 5 at"), "top|, top|null, null|, null|, top|Throwable, top|"}, // joined: the store and the ret
		{with("ret, at: store 0, nop, goto at", "0 1 at"), "ErrStack 4"},
		{with("nop, ret, at: pop, ret", "0 1 at A"), "ErrType 0"},
		{with("nop, nop, ret, at: pop, ret", "1 2 at nowhere"), "ErrClass 1"},
		{method{flags: 1, body: "nop, ret, at: ret", handlers: "1 2 at"}, "ErrStack 1"},
		{with("nop, here: ret", "0 1 here"), "ErrStack 0"}, // the next one has nothing on its stack
		{with("here: nop, ret", "here 1 here"), "ErrStack 0"},
		{with("null, nop, pop, ret", "1 2 1"), "top|, top|Throwable, top|Throwable, top|"}, // its own beginning
	})
}

// Caught comes ahead of Step, and a handler's Caught and what it leads to ahead of the next one's.
func TestV1HandlersFirst(t *testing.T) {
	with := func(body, handlers string) method {
		return method{flags: 1, stack: 1, locals: 1, body: body, handlers: handlers}
	}
	wantRows(t, []row{
		{with("pop, ret, at: pop, ret", "0 1 at"), "ErrStack 0"},
		{with("pop, ret, at: pop, ret", "0 1 at A"), "ErrType 0"},
		{with("load 0, ret", "0 2 0"), "ErrStack 0"},
		{with("nop, ret", "0 1 0, 0 1 0 A"), "ErrStack 0"},
		{with("nop, ret", "0 1 0 A, 0 1 0"), "ErrType 0"},
		{with("nop, ret", "0 1 1 nowhere, 0 1 0 A"), "ErrClass 0"},
		{with("nop, ret", "0 1 1 A, 0 1 0 nowhere"), "ErrType 0"},
	})
}

// The pending instruction with the least index is the next one.
func TestV1Order(t *testing.T) {
	wantRows(t, []row{
		{static("int 1, ifeq b, pop, ret, b: load 0, ret"), "ErrStack 6"},
		{static("int 1, ifeq b, ret, c: pop, b: goto c"), "ErrStack 7"},
		// Back to the changed one, ahead of the next one, which is wrong.
		{static("null, store 0, top: load 0, pop, int 5, store 0, int 5, ifeq top, pop, ret"), "ErrType 3"},
		{static("null, store 0, top: nop, int 5, store 0, int 5, ifeq top, pop, ret"), "ErrStack 15"},
		// A switch: the order of its jumps is not that of the processing.
		{static("int 1, switch c 3 b 5 a, a: pop, b: load 0, c: null, null, null, ret"), "ErrStack 16"},
		{static("int 1, switch c 3 b, a: pop, b: load 0, c: null, null, null, ret"), "ErrType 13"},
		{static("int 1, switch c, a: pop, b: load 0, c: null, null, null, ret"), "ErrStack 13"},
		// Far back and far on: between them nothing is pending.
		{static("goto c, a: load 0, store 0, ret, b: pop, ret, c: null, store 0, int 1, ifeq a, goto b"), "ErrStack 8"},
	})
}

// An instruction is processed with the state that it has at the beginning, though its own handler, or a jump to itself, changes it.
func TestV1Change(t *testing.T) {
	goes := "null, cast LA;, goto x, back: get A.x I, pop, pop, ret, x: goto back"
	stays := "null, cast LE;, goto x, back: get E.x I, pop, pop, ret, x: goto back"
	wantRows(t, []row{
		{method{flags: 1, stack: 1, body: goes}, "ErrStack 11"},
		{method{flags: 1, stack: 1, body: goes, handlers: "x end x"}, "ErrStack 11"}, // with A once more: Object is no A
		{method{flags: 1, stack: 1, body: stays, handlers: "x end x E"}, "ErrStack 11"},
		{method{flags: 1, stack: 1, body: strings.Replace(goes, "pop, pop", "pop, nop", 1), handlers: "x end x"}, "ErrType 7"}, // later with Object
		{method{flags: 1, stack: 1, body: strings.Replace(stays, "pop, pop", "pop, nop", 1), handlers: "x end x E"}, "|, |null, |E, |E, |int, |, |, |E"},
	})
}

func TestV1Wrong(t *testing.T) {
	h := sample(t)
	f := fileOf(t, static("ret"), static("nop, ret"))
	wantArg := func(h *hier.Table, f api.File, i int) {
		t.Helper()
		if x, e, pc := Method(h, f, i); answer(t, x, e, pc) != "ErrArg 0" {
			t.Error(i, e, pc)
		}
	}
	wantFile := func(h *hier.Table, f api.File) {
		t.Helper()
		for i := range 3 {
			wantArg(h, f, i)
		}
		if l, e, at, pc := File(h, f); e != api.ErrArg || at != 0 || pc != 0 || len(l) > 0 {
			t.Error(e, at, pc)
		}
	}
	for _, i := range []int{math.MinInt, -1, 2, 3, 1 << 32, math.MaxInt} {
		wantArg(h, f, i)
	}
	wantFile(h, api.File{})
	wantFile(new(hier.Table), f)
	none, _, _ := hier.New(nil)
	wantFile(none, f)
	opened, _, _ := h.Open([]api.File{file(0, "X", "B")})
	wantFile(opened, f) // there, but not its own
	for _, name := range []string{"Object", "String", "Deep", "X", "nowhere"} {
		g := file(0, name, "Object")
		wantFile(h, g)
	}
	for _, spoil := range []func(*api.File){
		func(f *api.File) { f.Flags = 1 }, func(f *api.File) { f.This = 0 }, func(f *api.File) { f.Super = 1 },
		func(f *api.File) { f.Methods[1].Flags = 5 }, func(f *api.File) { f.Methods[1].MaxStack = 65 }, func(f *api.File) { f.Methods[0].Name = 0 },
		func(f *api.File) { f.Methods[1] = f.Methods[0] }, func(f *api.File) { f.Fields = f.Methods }, func(f *api.File) { f.Pool = append(f.Pool, api.Const{}) },
	} {
		g := fileOf(t, static("ret"), static("nop, ret"))
		spoil(&g)
		wantFile(h, g)
	}
}

// Which table a file belongs to is told by the name of its class, and what it may name by the table.
func TestV1Tables(t *testing.T) {
	var p pool
	f := api.File{This: p.class("X"), Super: p.class("B")}
	f.Methods = []api.Member{p.assemble(t, method{stack: 1, locals: 1, body: "load 0, virt X.m ()V, load 0, get A.x I, pop, ret"})}
	f.Pool = p.l
	h := sample(t)
	opened, e, _ := h.Open([]api.File{f})
	if e != api.OK {
		t.Fatal(e)
	}
	x, e, pc := Method(opened, f, 0)
	if got := answer(t, x, e, pc); got != "X|, X|X, X|, X|X, X|int, X|" {
		t.Error(got)
	}
	above, _, _ := opened.Open(nil)
	if _, e, _ := Method(above, f, 0); e != api.ErrArg {
		t.Error(e)
	}
	// Another file of the same class.
	other, e, _ := hier.New([]api.File{file(0, "A", "Object"), file(0, "X", "Object")})
	if e != api.OK {
		t.Fatal(e)
	}
	x, e, pc = Method(other, f, 0)
	if got := answer(t, x, e, pc); got != "ErrType 7" {
		t.Error(got)
	}
}

func TestV1Abstract(t *testing.T) {
	h := sample(t)
	f := fileOf(t, method{flags: 2}, static("pop, ret"), method{flags: 2, desc: "(I)LA;"})
	for _, i := range []int{0, 2} {
		if x, e, pc := Method(h, f, i); e != api.OK || pc != 0 || len(x.L)+len(x.States)+len(x.Reached) > 0 {
			t.Error(i, x, e, pc)
		}
	}
	if x, e, pc := Method(h, f, 1); answer(t, x, e, pc) != "ErrStack 0" {
		t.Error(e, pc)
	}
}

func TestV2(t *testing.T) {
	h := sample(t)
	good, late := static("null, store 0, ret"), static("nop, nop, pop, ret")
	for _, c := range []struct {
		ms     []method
		e      api.Errno
		at, pc int
	}{
		{nil, api.OK, 0, 0},
		{[]method{good, {flags: 2}, static("goto 0"), good}, api.OK, 0, 0},
		{[]method{{flags: 2}, {flags: 2}}, api.OK, 0, 0},
		{[]method{late}, api.ErrStack, 0, 2},
		{[]method{good, good, late, good}, api.ErrStack, 2, 2},
		{[]method{{flags: 2}, late, static("null, null, add, ret")}, api.ErrStack, 1, 2}, // the first one
		{[]method{good, static("null, null, add, ret"), late}, api.ErrType, 1, 2},
		{[]method{good, {body: "ret"}, late}, api.ErrLocal, 1, 0},
	} {
		f := fileOf(t, c.ms...)
		l, e, at, pc := File(h, f)
		if e != c.e || at != c.at || pc != c.pc || e == api.OK && len(l) != len(c.ms) || e != api.OK && len(l) > 0 {
			t.Error(len(l), e, at, pc, c)
		}
		for i, x := range l {
			y, e, pc := Method(h, f, i)
			if got, want := answer(t, x, api.OK, 0), answer(t, y, e, pc); got != want {
				t.Error(i, got, want)
			}
		}
	}
}
