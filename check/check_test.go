package check

import (
	"math"
	"testing"

	"crucible/api"
	"crucible/hier"
	"crucible/verify"
)

// The document's examples.
func TestExamples(t *testing.T) {
	m := static("null, store 0, ret")
	wantRows(t, []row{
		{m, "", fine},
		{m, "top|, top|null, null|", fine},
		{m, "top|, top|null, top|", fine},
		{m, "top|, top|null, int|", "1 ErrState"},
		{m, "top|, top|, null|", "0 ErrState"},
	})
}

// wantArg holds that there can't be a typing, whatever is said.
func wantArg(t *testing.T, h *hier.Table, f api.File, i int, x verify.Typed) {
	t.Helper()
	for _, x := range []verify.Typed{x, {}} {
		if got := answer(t, h, f, i, x); got != "0 ErrArg" {
			t.Error(i, got)
		}
		if got := modelAnswer(t, h, f, i, x); got != "0 ErrArg" {
			t.Error("the model:", i, got)
		}
	}
}

func TestK1Arg(t *testing.T) {
	h := sample(t)
	good := func() api.File { return fileOf(t, static("nop, ret"), method{flags: 2}, static("null, pop, ret")) }
	f := good()
	x, e, _ := verify.Method(h, f, 0)
	if e != api.OK || answer(t, h, f, 0, x) != fine {
		t.Fatal(e)
	}
	for _, i := range []int{math.MinInt, -1, 1, 3, 4, 1 << 32, math.MaxInt} {
		wantArg(t, h, f, i, x)
	}
	wantArg(t, h, api.File{}, 0, x)
	none, _, _ := hier.New(nil)
	opened, _, _ := h.Open([]api.File{file(0, "X", "B")}) // the class of f is there, but not its own
	for _, h := range []*hier.Table{new(hier.Table), none, opened} {
		wantArg(t, h, f, 0, x)
	}
	for _, name := range []string{"Object", "String", "nowhere"} {
		g := good()
		g.Pool[g.Pool[g.This-1].A-1].Text = name
		wantArg(t, h, g, 0, x)
	}
	for _, spoil := range []func(*api.File){
		func(f *api.File) { f.Flags = 1 }, func(f *api.File) { f.This = 0 }, func(f *api.File) { f.Methods[2].MaxStack = 65 },
		func(f *api.File) { f.Methods[2] = f.Methods[0] }, func(f *api.File) { f.Pool = append(f.Pool, api.Const{}) },
		func(f *api.File) { f.Methods[0].Code = "" },
		func(f *api.File) { f.Methods[0].Handlers = []api.Handler{{To: 3}} },
	} {
		g := good()
		spoil(&g)
		wantArg(t, h, g, 0, x)
	}
}

// Codes that can't be decoded, handlers that don't fit the instructions.
func TestK1ArgCode(t *testing.T) {
	h := sample(t)
	for _, r := range []struct {
		code     string
		handlers []api.Handler
	}{
		{"\x00", nil}, {"\x2c\x40", nil}, {"\x2c\x14\x00", nil}, {"\x00\x14\x00\x04\x2c", nil}, {"\x2c\x06", nil},
		{"\x04\x00\x2c", []api.Handler{{To: 1}}}, {"\x04\x00\x2c", []api.Handler{{From: 1, To: 2}}},
		{"\x04\x00\x2c", []api.Handler{{To: 2, At: 1}}}, {"\x2c\x04\x00\x2c", []api.Handler{{To: 1}, {From: 1, To: 2}}},
	} {
		f := fileOf(t, static("ret"), static("ret"))
		f.Methods[0].Code, f.Methods[0].Handlers = r.code, r.handlers
		x, _, _ := verify.Method(h, f, 1)
		wantArg(t, h, f, 0, x)
		if got := answer(t, h, f, 1, x); got != fine { // the other method's faults don't matter
			t.Error(got)
		}
	}
}

// many is a method with all forms of instructions.
var many = method{
	flags: 1, stack: 2, locals: 2, desc: "(LA;)V",
	body: "load 0, ifnull b, int 5, switch a 1 b 2 b, a: new A, pop, goto b, nop, b: load 0, pop, ret",
}

// What is said is about other instructions, or not about all.
func TestK1Parts(t *testing.T) {
	h := sample(t)
	f := fileOf(t, many, static("nop, ret"))
	for i, c := range []struct {
		turn func(*verify.Typed)
		want string
	}{
		{func(x *verify.Typed) {}, fine},
		{func(x *verify.Typed) { x.L[0].Keys, x.L[0].To = []int{}, []int{} }, fine}, // an empty list is no list
		{func(x *verify.Typed) { x.L[3].Pc++ }, "0 ErrState"},
		{func(x *verify.Typed) { x.L[0].Pc = -1 }, "0 ErrState"},
		{func(x *verify.Typed) { x.L[7].Op = api.Yield }, "0 ErrState"}, // though it is not reached
		{func(x *verify.Typed) { x.L[0].N = 1 }, "0 ErrState"},
		{func(x *verify.Typed) { x.L[7].N = 1 }, "0 ErrState"},
		{func(x *verify.Typed) { x.L[4].N++ }, "0 ErrState"},
		{func(x *verify.Typed) { x.L[1].To[0] = 0 }, "0 ErrState"},
		{func(x *verify.Typed) { x.L[3].To[2] = 0 }, "0 ErrState"},
		{func(x *verify.Typed) { x.L[3].To[1], x.L[3].To[0] = x.L[3].To[0], x.L[3].To[1] }, "0 ErrState"},
		{func(x *verify.Typed) { x.L[3].Keys[1]++ }, "0 ErrState"},
		{func(x *verify.Typed) { x.L[3].Keys = x.L[3].Keys[:1] }, "0 ErrState"},
		{func(x *verify.Typed) { x.L[3].To = x.L[3].To[:2] }, "0 ErrState"},
		{func(x *verify.Typed) { x.L[1].To = nil }, "0 ErrState"},
		{func(x *verify.Typed) { x.L[7].To = []int{0} }, "0 ErrState"},
		{func(x *verify.Typed) { x.L[7].Keys = []int{0} }, "0 ErrState"},
		{func(x *verify.Typed) { x.L = nil }, "0 ErrState"},
		{func(x *verify.Typed) { x.L = x.L[:10] }, "0 ErrState"},
		{func(x *verify.Typed) { x.L = append(x.L, api.Instr{Pc: 40, Op: api.Ret}) }, "0 ErrState"},
		{func(x *verify.Typed) { x.States = nil }, "0 ErrState"},
		{func(x *verify.Typed) { x.States = x.States[:10] }, "0 ErrState"},
		{func(x *verify.Typed) { x.States = append(x.States, api.State{}) }, "0 ErrState"},
		{func(x *verify.Typed) { x.Reached = nil }, "0 ErrState"},
		{func(x *verify.Typed) { x.Reached = x.Reached[:10] }, "0 ErrState"},
		{func(x *verify.Typed) { x.Reached = append(x.Reached, false) }, "0 ErrState"},
		{func(x *verify.Typed) { x.Reached[0] = false }, "0 ErrState"},
		{func(x *verify.Typed) { clear(x.Reached) }, "0 ErrState"},
		{func(x *verify.Typed) { *x, _, _ = verify.Method(h, f, 1) }, "0 ErrState"},
		{func(x *verify.Typed) { *x = verify.Typed{} }, "0 ErrState"},
		// Ahead of what is wrong at a later instruction.
		{func(x *verify.Typed) { x.States[8].Stack, x.L[9].N = nil, 1 }, "0 ErrState"},
	} {
		x, e, pc := verify.Method(h, f, 0)
		if e != api.OK || len(x.L) != 11 || x.Reached[7] {
			t.Fatal(e, pc, len(x.L))
		}
		c.turn(&x)
		if got, model := answer(t, h, f, 0, x), modelAnswer(t, h, f, 0, x); got != c.want || model != c.want {
			t.Error(i, got, "the model:", model, c.want)
		}
	}
}

func TestK1Start(t *testing.T) {
	given := method{stack: 1, locals: 4, desc: "(ILA;)V", body: "ret"}
	built := method{name: "<init>", stack: 1, locals: 1, body: "load 0, spec A.<init> ()V, ret"}
	wantRows(t, []row{
		{given, "B int A top|", fine},
		{given, "A int A top|", fine},
		{given, "Object top Object top|", fine},
		{given, "I int I top|", fine},
		{given, "top top top top|", fine},
		{given, "D int A top|", "0 ErrState"},
		{given, "B int B top|", "0 ErrState"},
		{given, "B A int top|", "0 ErrState"},
		{given, "B int null top|", "0 ErrState"},
		{given, "B int A null|", "0 ErrState"},
		{given, "this int A top|", "0 ErrState"},
		{given, "B int A top|null", "0 ErrState"},
		{given, "-B int A top|", "0 ErrState"},
		{given, "B int A|", "0 ErrState"},
		{given, "B int A top top|", "0 ErrState"},
		{given, "|", "0 ErrState"},
		{built, "this|, this|this, B|", fine},
		{built, "B|, this|this, B|", "0 ErrState"},
		{built, "top|, this|this, B|", "0 ErrType"}, // nothing is known, so it can't be loaded
		// What the method is given doesn't fit: not the ErrLocal of transfer.Start.
		{method{body: "ret"}, "|", "0 ErrState"},
		{method{flags: 1, locals: 1, desc: "(II)V", body: "ret"}, "int|", "0 ErrState"},
		{method{flags: 1, locals: 1, desc: "(II)V", body: "ret"}, "int int|", "0 ErrState"},
		{method{flags: 1, stack: 1, locals: 0, desc: "(I)V", body: "nop, pop, ret"}, "|, |, |", "0 ErrState"}, // ahead of the pop
	})
}

// A state that the method can't have.
func TestK1State(t *testing.T) {
	m := static("nop, goto last, nop, last: ret")
	deep := method{flags: 1, stack: 1, body: "null, goto last, here: goto here, last: ret"}
	wantRows(t, []row{
		{m, "top|, top|, -|, top|", fine},
		{m, "top|, |, -|, top|", "1 ErrState"}, // it is below, but too short
		{m, "top|, top|, -|, |", "5 ErrState"},
		{m, "top|, top top|, -|, top|", "0 ErrState"},
		{m, "top|, top|, |, top|", "4 ErrState"},
		{m, "top|, top|, top top|, top|", "4 ErrState"},
		{m, "top|, top|, top|null int, top|", "4 ErrState"}, // it goes on to one with nothing on its stack
		{m, "top|, top|, top|, top|", fine},
		{m, "top|, top|, null|, top|", fine},
		{m, "top|, top|, wrong|, top|", "4 ErrState"},
		{m, "top|, top|, wrongtype|, top|", "4 ErrState"},
		{m, "top|, top|, wrongnumber|, top|", "4 ErrState"},
		{m, "top|, top|, new-1|, top|", "4 ErrState"},
		{m, "top|, top|, new99|, top|", fine},
		{m, "top|, top|, this|, top|", fine},
		{m, "top|, top|, nowhere|, top|", fine}, // a valid Known of no class
		{m, "top|, top|, [[[[int|, top|", fine},
		{m, "top|, top|, [[[[[int|, top|", "4 ErrState"},
		{m, "top|, top|, a;b|, top|", "4 ErrState"},
		// On the stack.
		{deep, "|, |null, |, |null", fine},
		{deep, "|, |null, |null, |null", fine},
		{deep, "|, |null, |null null, |null", "4 ErrState"},
		{deep, "|, |null, |top, |null", fine},
		{deep, "|, |null, |wrong, |null", "4 ErrState"},
		{deep, "|, |null, |wrongtype, |null", "4 ErrState"},
		{deep, "|, |null, |new-7, |null", "4 ErrState"},
		// Where nothing comes of it: what is wrong is popped, stored over, or stays behind.
		{static("ret, pop, ret"), "top|, top|int, top|", fine},
		{static("ret, pop, ret"), "top|, top|wrong, top|", "1 ErrState"},
		{static("ret, pop, ret"), "top|, top|wrongnumber, top|", "1 ErrState"},
		{static("ret, pop, ret"), "top|, top|int wrong, top|", "1 ErrState"},
		{static("ret, null, ret"), "top|, top|wrong wrong, -|", "1 ErrState"}, // not the ErrStack of a push
		{static("ret, throw"), "top|, top|wrong", "1 ErrState"},               // not the ErrType
		{static("ret, throw"), "top|, wrong|null", "1 ErrState"},
		{static("ret, store 0, ret"), "top|, wrongtype|null, null|", "1 ErrState"},
		{static("ret, ret"), "top|, new-1|", "1 ErrState"},
		{static("ret, ret"), "top|, new0|", fine},
		{static("ret, ret"), "top|, top top|", "1 ErrState"},
		{static("ret, ret"), "top|, |", "1 ErrState"},
		{static("ret, ret"), "top|, top|null null", fine},
		{static("ret, ret"), "top|, top|null null null", "1 ErrState"},
		// What is not reached may be anything.
		{deep, "|, |null, -top wrong|wrong int int, |null", fine},
		{m, "top|, top|, -wrong wrong|wrong, top|", fine},
		// Ahead of all else that is wrong at the instruction.
		{static("nop, here: pop, ret, at: pop, ret"), "top|, top|, -|, -|, -|", "1 ErrStack"},
		{static("nop, here: pop, ret, at: pop, ret"), "top|, |, -|, -|, -|", "1 ErrState"},
		{method{flags: 1, locals: 1, stack: 1, body: "nop, here: pop, ret, at: pop, ret", handlers: "here end at A"}, "top|, |, -|, -|, -|", "1 ErrState"},
	})
}

func TestK1Next(t *testing.T) {
	joined := static("null, ifnull c, null, cast LB;, goto both, c: null, cast LC;, both: store 0, ret")
	chosen := static("int 1, switch c 1 a 2 b, a: ret, b: ret, c: ret")
	wantRows(t, []row{
		{joined, "", fine},
		{joined, "top|, top|null, top|, top|null, top|B, top|, top|null, top|A, A|", fine},
		{joined, "top|, top|null, top|, top|null, top|B, top|, top|null, top|Object, Object|", fine},
		{joined, "top|, top|null, top|, top|null, top|B, top|, top|null, top|I, I|", fine},
		{joined, "top|, top|null, top|, top|null, top|B, top|, top|null, top|top, top|", fine},
		{joined, "top|, top|null, top|, top|null, top|B, top|, top|null, top|B, B|", "12 ErrState"}, // a C is none
		{joined, "top|, top|null, top|, top|null, top|B, top|, top|null, top|C, C|", "8 ErrState"},
		{joined, "top|, top|null, top|, top|null, top|B, top|, top|null, top|A, B|", "15 ErrState"},
		{joined, "top|, top|null, top|, top|null, top|B, top|, top|null, top|, A|", "8 ErrState"},
		{joined, "top|, top|null, -|, top|null, top|B, top|, top|null, top|A, A|", "1 ErrState"},
		{joined, "top|, top|null, top|, top|null, top|B, -|, top|null, top|A, A|", "1 ErrState"},
		{joined, "top|, top|null, top|, top|null, top|B, -|, -|, top|A, A|", "1 ErrState"},
		{joined, "top|, top|null, top|, top|null, top|B, top|, top|null, -top|A, A|", "8 ErrState"},
		{joined, "top|, top|null, top|, top|null, top|A, top|, top|null, top|A, A|", fine},
		{joined, "top|, top|null, top|null, top|null, top|A, top|, top|null, top|A, A|", "1 ErrState"},
		// Each jump of a switch.
		{chosen, "top|, top|int, top|, top|, top|", fine},
		{chosen, "top|, top|int, -top|, top|, top|", "3 ErrState"},
		{chosen, "top|, top|int, top|, -top|, top|", "3 ErrState"},
		{chosen, "top|, top|int, top|, top|, -top|", "3 ErrState"},
		{chosen, "top|, top|int, null|, top|, top|", "3 ErrState"},
		{chosen, "top|, top|int, top|, null|, top|", "3 ErrState"},
		{chosen, "top|, top|int, top|, top|, null|", "3 ErrState"},
		// A loop, and a jump to itself.
		{static("top: null, store 0, goto top"), "top|, top|null, null|", fine},
		{static("null, store 0, top: load 0, store 0, goto top"), "top|, top|null, null|, null|null, null|", fine},
		{static("null, store 0, top: load 0, store 0, goto top"), "top|, top|null, A|, A|A, A|", fine},
		{static("null, store 0, top: load 0, store 0, goto top"), "top|, top|null, A|, A|A, top|", "7 ErrState"},
		{static("here: goto here"), "top|", fine},
		{static("here: goto here"), "null|", "0 ErrState"},
		{static("null, here: ifnull here, ret"), "top|, top|null, top|", "1 ErrState"},
		{static("null, here: ifnull here, ret"), "top|, top|null, top|null", "1 ErrState"},
	})
}

func TestK1Handlers(t *testing.T) {
	with := func(body, handlers string) method {
		return method{flags: 1, stack: 1, locals: 1, body: body, handlers: handlers}
	}
	all := with("nop, ret, at: pop, ret", "0 1 at")
	typed := with("nop, ret, at: pop, ret", "0 1 at F, 0 1 at G")
	two := with("null, store 0, here: nop, ret, a: pop, ret, b: pop, ret", "here 4 a E, here 4 b F")
	wantRows(t, []row{
		{all, "", fine},
		{all, "top|, top|, top|Throwable, top|", fine},
		{all, "top|, top|, top|Object, top|", fine},
		{all, "top|, top|, top|top, top|", fine},
		{all, "top|, top|, top|E, top|", "0 ErrState"},
		{all, "top|, top|, top|null, top|", "0 ErrState"},
		{all, "top|, top|, top|, top|", "0 ErrState"},
		{all, "top|, top|, null|Throwable, top|", "0 ErrState"},
		{all, "top|, top|, -top|Throwable, top|", "0 ErrState"},
		{all, "top|, top|, |Throwable, top|", "2 ErrState"},
		{typed, "", fine},
		{typed, "top|, top|, top|E, top|", fine},
		{typed, "top|, top|, top|Throwable, top|", fine},
		{typed, "top|, top|, top|F, top|", "0 ErrState"},
		{typed, "top|, top|, top|G, top|", "0 ErrState"},
		// It is the locals ahead of the instruction that count.
		{two, "", fine},
		{two, "top|, top|null, null|, null|, null|E, null|, null|F, null|", fine},
		{two, "top|, top|null, null|, null|, A|E, top|, top|Throwable, top|", fine},
		{two, "top|, top|null, null|, null|, null|F, null|, null|F, null|", "3 ErrState"},
		{two, "top|, top|null, null|, null|, null|E, null|, null|G, null|", "3 ErrState"},
		{two, "top|, top|null, null|, null|, null|E, null|, int|F, null|", "3 ErrState"},
		{two, "top|, top|null, null|, null|, null|E, null|, -null|F, null|", "3 ErrState"},
		{two, "top|, top|null, A|, A|, null|E, null|, A|F, null|", "3 ErrState"},
		{with("null, here: store 0, ret, at: pop, ret", "here 3 at"), "top|, top|null, null|, null|Throwable, top|", "1 ErrState"},
		{with("null, here: store 0, ret, at: pop, ret", "here 3 at"), "top|, top|null, null|, top|Throwable, top|", fine},
		// The errors of Caught.
		{with("nop, ret, at: pop, ret", "0 1 at A"), "top|, top|, top|A, top|", "0 ErrType"},
		{with("nop, nop, ret, at: pop, ret", "1 2 at nowhere"), "top|, top|, top|, top|nowhere, top|", "1 ErrClass"},
		{method{flags: 1, body: "nop, ret, at: ret", handlers: "1 2 at"}, "|, |, |", "1 ErrStack"},
		// A handler of what is not reached leads nowhere, whatever it is.
		{with("nop, ret, b: nop, ret, at: pop, ret", "b at at A"), "top|, top|, -|, -|, -|, -|", fine},
		{with("nop, ret, b: nop, ret, at: pop, ret", "b at at"), "top|, top|, -|, -|, -|, -|", fine},
		{with("nop, ret, b: nop, ret, at: pop, ret", "b at at"), "top|, top|, top|, top|, -|, -|", "2 ErrState"},
		{with("nop, ret, b: nop, ret, at: pop, ret", "b at at"), "top|, top|, -|, top|, top|Throwable, top|", fine},
		{with("nop, ret, b: nop, ret, at: pop, ret", "b at at"), "top|, top|, -|, top|, -|, top|", "3 ErrState"},
		// Its own beginning.
		{with("null, here: nop, pop, ret", "here 2 here"), "top|, top|Throwable, top|Throwable, top|", fine},
		{with("null, here: nop, pop, ret", "here 2 here"), "top|, top|null, top|null, top|", "1 ErrState"},
	})
}

// An instruction's handlers are asked in order, ahead of the instruction itself.
func TestK1HandlersFirst(t *testing.T) {
	with := func(body, handlers string) method {
		return method{flags: 1, stack: 1, locals: 1, body: body, handlers: handlers}
	}
	wantRows(t, []row{
		{with("pop, ret, at: pop, ret", "0 1 at"), "top|, top|, top|Throwable, top|", "0 ErrStack"},
		{with("pop, ret, at: pop, ret", "0 1 at"), "top|, top|, top|E, top|", "0 ErrState"},
		{with("pop, ret, at: pop, ret", "0 1 at"), "top|, top|, -top|Throwable, top|", "0 ErrState"},
		{with("pop, ret, at: pop, ret", "0 1 at A"), "top|, top|, top|E, top|", "0 ErrType"},
		{with("nop, ret, at: pop, ret", "0 1 at"), "top|, -top|, top|E, top|", "0 ErrState"},
		{with("nop, ret, at: pop, ret", "0 1 at A"), "top|, -top|, top|E, top|", "0 ErrType"},
		{with("load 0, ret", "0 2 0"), "top|, top|", "0 ErrState"},
		{with("nop, ret", "0 1 0, 0 1 0 A"), "top|, top|", "0 ErrState"},
		{with("nop, ret", "0 1 0 A, 0 1 0"), "top|, top|", "0 ErrType"},
		{with("nop, ret", "0 1 0 A, 0 1 0 nowhere"), "top|, top|", "0 ErrType"},
		{with("nop, ret", "0 1 0 nowhere, 0 1 0 A"), "top|, top|", "0 ErrClass"},
		{with("nop, nop, ret, at: pop, ret", "0 2 at E, 1 2 at A"), "top|, top|, top|, top|E, top|", "1 ErrType"},
	})
}

// An instruction may have the locals and the handlers of the one ahead, or other ones.
func TestK1HandlersAgain(t *testing.T) {
	with := func(handlers string) method {
		return method{flags: 1, stack: 1, locals: 2, body: "nop, nop, nop, ret, a: pop, ret, b: pop, ret", handlers: handlers}
	}
	// typing is one by the locals of the first instructions, and the states at both handlers.
	typing := func(first, second, third, a, b string) string {
		return first + "|, " + second + "|, " + third + "|, top top|, " + a + ", top top|, " + b + ", top top|"
	}
	top, caught := "top top", "top top|Throwable"
	wantRows(t, []row{
		{with("0 3 a"), typing(top, top, top, caught, "-|"), fine},
		{with("0 3 a"), typing(top, top, top, "top top|E", "-|"), "0 ErrState"},
		{with("1 3 a"), typing(top, top, top, "top top|E", "-|"), "1 ErrState"},
		{with("2 3 a"), typing(top, top, top, "top top|E", "-|"), "2 ErrState"},
		{with("0 2 a,2 3 b"), typing(top, top, top, caught, caught), fine},
		{with("0 2 a,2 3 b"), typing(top, top, top, caught, "-|"), "2 ErrState"},
		{with("0 3 a,1 3 b"), typing(top, top, top, caught, "top top|E"), "1 ErrState"},
		{with("0 3 a,2 3 b"), typing(top, top, top, caught, "top top|E"), "2 ErrState"},
		{with("0 3 a,2 3 b A"), typing(top, top, top, caught, "top top|E"), "2 ErrType"},
		{with("0 3 a,0 2 b"), typing(top, top, top, caught, caught), fine},
		// What is said of the locals changes on the way, though nothing stores into them.
		{with("1 3 a"), typing(top, top, "null top", caught, "-|"), "1 ErrState"},
		{method{flags: 1, stack: 1, locals: 2, desc: "(LA;LB;)V", body: "nop, nop, nop, ret, a: pop, ret", handlers: "0 3 a"}, "A B|, A B|, A top|, top top|, A B|Throwable, top top|", "2 ErrState"},
		{method{flags: 1, stack: 1, locals: 2, desc: "(LA;LB;)V", body: "nop, nop, nop, ret, a: pop, ret", handlers: "0 3 a"}, "A B|, A B|, A B|, top top|, A B|Throwable, top top|", fine},
		{method{flags: 1, stack: 1, locals: 2, desc: "(LA;LB;)V", body: "nop, nop, nop, ret, a: pop, ret", handlers: "0 3 a"}, "A B|, A A|, A A|, top top|, A B|Throwable, top top|", "1 ErrState"},
		// The one ahead has the same ones, but is not reached.
		{method{flags: 1, stack: 1, locals: 1, body: "goto x, nop, x: nop, ret, a: pop, ret", handlers: "3 5 a"}, "top|, -top|, top|, top|, top|E, top|", "4 ErrState"},
		{method{flags: 1, stack: 1, locals: 1, body: "goto x, nop, x: nop, ret, a: pop, ret", handlers: "3 5 a"}, "top|, top|, top|, top|, top|E, top|", "3 ErrState"},
	})
}

// The errors of Step, with the place of the instruction.
func TestK1Step(t *testing.T) {
	wantRows(t, []row{
		{static("pop, ret"), "top|, top|", "0 ErrStack"},
		{static("null, pop, pop, ret"), "top|, top|null, top|, top|", "2 ErrStack"},
		{static("null, null, null, ret"), "top|, top|null, top|null null, top|null null", "2 ErrStack"},
		{static("null, null, add, ret"), "top|, top|null, top|null null, top|int", "2 ErrType"},
		{static("null, store 0, load 0, ret"), "top|, top|null, top|, top|null", "3 ErrType"}, // less is said than is known
		{static("null, store 1, ret"), "top|, top|null, top|", "1 ErrLocal"},
		{static("nop, new I, ret"), "top|, top|, top|", "1 ErrKind"},
		{static("nop, new nowhere, ret"), "top|, top|, top|new1", "1 ErrClass"},
		{static("int 1, array [[[[I, ret"), "top|, top|int, top|", "3 ErrDesc"},
		{static("int 1, switch a 5 a 5 a, a: ret"), "top|, top|int, top|", "3 ErrArg"},
		{method{name: "<init>", locals: 1, body: "nop, ret"}, "this|, this|", "1 ErrInit"},
		{method{name: "<init>", locals: 1, body: "nop, ret"}, "this|, top|", "1 ErrInit"},
		{method{name: "<init>", locals: 1, body: "nop, ret"}, "this|, B|", "0 ErrState"},
		{static("null, cast LB;, get B.x I, print, ret"), "top|, top|null, top|B, top|int, top|", fine},
		{static("null, cast LB;, get B.x I, print, ret"), "top|, top|null, top|A, top|int, top|", "4 ErrType"},
		{static("null, cast LB;, get B.x I, print, ret"), "top|, top|null, top|D, top|int, top|", "1 ErrState"},
		{static("null, throw, ret"), "top|, top|null, -|", fine},
		{static("null, throw, ret"), "top|, top|A, -|", "1 ErrType"},
		{method{flags: 1, stack: 1, desc: "()LA;", body: "null, vret"}, "|, |B", fine},
		{method{flags: 1, stack: 1, desc: "()LA;", body: "null, vret"}, "|, |Object", "1 ErrType"},
	})
	// A link to a constant of another tag.
	h := sample(t)
	f := fileOf(t, static("nop, int 1, pop, ret"))
	f.Methods[0].Code = "\x00\x01\x00\x01\x06\x2c"
	x := typingFrom(t, f.Methods[0], "top|, top|, top|int, top|")
	if got := answer(t, h, f, 0, x); got != "1 ErrPool" {
		t.Error(got)
	}
}

// Nothing follows an aget or an aput of NULL, but of what is said to be an array something does.
func TestK1Null(t *testing.T) {
	read := static("null, int 1, aget, pop, ret")
	written := method{flags: 1, stack: 3, body: "null, int 1, null, aput, ret"}
	wantRows(t, []row{
		{read, "", fine},
		{read, "top|, top|null, top|null int, -|, -|", fine},
		{read, "top|, top|null, top|null int, top|A, top|", fine}, // though it is not reached
		{read, "top|, top|null, top|null int, top|, top|", "5 ErrStack"},
		{read, "top|, top|[A, top|[A int, -top|A, top|", "4 ErrState"},
		{read, "top|, top|[A, top|[A int, top|A, top|", fine},
		{read, "top|, top|[A, top|[A int, top|B, top|", "4 ErrState"},
		{read, "top|, top|A, top|A int, top|B, top|", "4 ErrType"},
		{written, "", fine},
		{written, "|, |null, |null int, |null int null, -|", fine},
		{written, "|, |[A, |[A int, |[A int null, |", fine},
		{written, "|, |[A, |[A int, |[A int null, -|", "5 ErrState"},
		{written, "|, |[int, |[int int, |[int int null, |", "5 ErrType"},
	})
}

// The first instruction that is wrong counts, and only if it is reached.
func TestK1Order(t *testing.T) {
	m := static("nop, pop, load 0, store 5, ret")
	wantRows(t, []row{
		{m, "top|, top|, top|, top|, top|", "1 ErrStack"},
		{m, "top|, top|null, top|, top|, top|", "0 ErrState"},
		{static("goto x, pop, load 0, x: load 0, pop, ret"), "top|, -|, -|, top|, -|, -|", "6 ErrType"},
		{static("goto x, pop, load 0, x: load 0, pop, ret"), "top|, top|, -|, top|, -|, -|", "3 ErrStack"},
		{static("goto x, pop, load 0, x: load 0, pop, ret"), "top|, top|null, -|, top|, -|, -|", "3 ErrState"},
		{static("goto x, pop, load 0, x: load 0, pop, ret"), "top|, -|, top|, top|, -|, -|", "4 ErrType"},
		{static("goto x, pop, load 0, x: load 0, pop, ret"), "top|, -|, null|, top|null, -|, -|", "0 ErrState"},
		{static("goto x, y: pop, ret, x: pop, goto y"), "top|, top|, top|, top|, top|", "3 ErrStack"}, // by its place, not by when it is done
		{static("goto x, y: pop, ret, x: pop, goto y"), "top|, top|null, top|, top|, top|", "5 ErrStack"},
	})
}

// What is said to be reached is held to the rules, though nothing leads there.
func TestK1Unreachable(t *testing.T) {
	m := static("ret, store 0, goto 0")
	wantRows(t, []row{
		{m, "", fine},
		{m, "top|, -|, -|", fine},
		{m, "top|, top|A, A|", fine},
		{m, "top|, top|nowhere, nowhere|", fine},
		{m, "top|, top|this, this|", fine},
		{m, "top|, top|A, B|", "1 ErrState"},
		{m, "top|, top|A, -|", "1 ErrState"},
		{m, "top|, top|, top|", "1 ErrStack"},
		{m, "top|, -|, top|null", "3 ErrState"},
		{m, "top|, -|, top|", fine},
	})
}

// Where there are interfaces, a typing may hold though verify finds none: a value is known to be of one, where the Lub is Object.
func TestK3Ifaces(t *testing.T) {
	m := method{flags: 1, stack: 1, desc: "(LD;LJ;)V", locals: 2, body: "load 0, ifnull b, load 0, goto both, b: load 1, both: iface J.m ()V, ret"}
	h := sample(t)
	f := fileOf(t, m)
	if _, e, pc := verify.Method(h, f, 0); e != api.ErrType || pc != 12 {
		t.Error(e, pc)
	}
	wantRows(t, []row{
		{m, "D J|, D J|D, D J|, D J|D, D J|, D J|J, D J|", fine},
		{m, "D J|, D J|D, D J|, D J|D, D J|, D J|Object, D J|", "12 ErrType"},
		{m, "D J|, D J|D, D J|, D J|D, D J|, D J|D, D J|", "10 ErrState"},
	})
}

// Which classes there are is the table's matter.
func TestK1Tables(t *testing.T) {
	f := fileOf(t, static("null, cast LB;, store 0, load 0, get A.x I, pop, ret"))
	typing := "top|, top|null, top|B, B|, B|B, B|int, B|"
	other, e, _ := hier.New([]api.File{file(0, "A", "Object"), file(0, "B", "Object")})
	if e != api.OK {
		t.Fatal(e)
	}
	alone, e, _ := hier.New([]api.File{file(0, "B", "Object")})
	if e != api.OK {
		t.Fatal(e)
	}
	for want, h := range map[string]*hier.Table{fine: sample(t), "8 ErrType": other, "8 ErrClass": alone} {
		if got := answer(t, h, f, 0, typingFrom(t, f.Methods[0], typing)); got != want {
			t.Error(got, want)
		}
	}
}

func TestK2(t *testing.T) {
	h := sample(t)
	f := fileOf(t, static("null, store 0, ret"), many, method{flags: 2}, static("here: goto here"))
	all, e, at, pc := verify.File(h, f)
	if e != api.OK {
		t.Fatal(e, at, pc)
	}
	for i, x := range all {
		if Holds(h, f, i, x) != (i != 2) {
			t.Error(i)
		}
		// Of another method it does not.
		for k := range all {
			if k != i && Holds(h, f, k, x) {
				t.Error(i, k)
			}
		}
	}
	if Holds(h, f, 4, all[0]) || Holds(h, f, -1, all[0]) || Holds(h, api.File{}, 0, all[0]) {
		t.Error("no such method")
	}
	all[0].States[2].Locals[0] = known("int")
	if Holds(h, f, 0, all[0]) {
		t.Error("INT for NULL")
	}
}
