package transfer

import (
	"math"
	"reflect"
	"slices"
	"strings"
	"testing"

	"crucible/api"
	"crucible/code"
	"crucible/hier"
	"crucible/lattice"
)

var extremes = []int{math.MinInt, -1 << 32, -1, 0, 1, 2, 3, 7, 64, 65, 4096, 1 << 32, math.MaxInt}

// wrongKnowns are knowns that are not valid.
func wrongKnowns() []api.Known {
	l := []api.Known{{Kind: 3}, {Kind: 4, N: -1}, {Kind: 4, N: math.MinInt}, {Kind: 0, N: 1}, {Kind: 2, T: typ("[A")}, {Kind: 5, T: typ("A"), N: 3}}
	for _, n := range extremes {
		l = append(l, api.Known{Kind: n + 6, N: n}, api.Known{Kind: 3, T: api.Type{Dims: n}}, api.Known{Kind: 3, T: api.Type{Dims: n, Name: "A"}, N: n})
	}
	for _, name := range []string{" ", "a;", "\xff", strings.Repeat("A", 65), strings.Repeat("A", 100000)} {
		l = append(l, api.Known{Kind: 3, T: api.Type{Name: name}}, api.Known{Kind: 3, T: api.Type{Dims: 2, Name: name}})
	}
	return slices.DeleteFunc(l, lattice.Right)
}

// oddMethods are methods that no file has: their constants, names, numbers are wrong.
func oddMethods(h *hier.Table) []Method {
	var l []Method
	for i, n := range extremes {
		f := api.File{This: n, Super: n, Flags: n}
		for _, tag := range extremes {
			f.Pool = append(f.Pool, api.Const{Tag: tag, Text: "()V", N: n, A: n, B: i, C: tag})
		}
		for tag := range 9 {
			f.Pool = append(f.Pool, api.Const{Tag: tag, A: 3, B: 5, C: n}, api.Const{Tag: tag, A: len(f.Pool), B: 5, C: 5})
		}
		m := api.Member{Flags: n, Name: n, Desc: 5, MaxStack: n, MaxLocals: extremes[len(extremes)-1-i]}
		x := api.Instr{Pc: n, Op: api.New, N: n, Keys: extremes, To: extremes}
		l = append(l, Method{F: f, M: m, H: h, L: []api.Instr{x, {Op: n}}}, Method{F: f, M: m, H: new(hier.Table)}, Method{M: m, H: h})
	}
	return append(l, Method{H: h}, Method{H: new(hier.Table)})
}

func TestP1Anything(t *testing.T) {
	bad := wrongKnowns()
	states := []api.State{{}, {Locals: bad, Stack: bad}, state("int A|A int int"), {Stack: slices.Repeat(knowns("A int"), 500)}}
	for _, k := range bad {
		states = append(states, api.State{Locals: []api.Known{k}, Stack: []api.Known{k, k, known("int"), known("int")}}, api.State{Stack: []api.Known{k, known("int")}}, api.State{Stack: []api.Known{k, known("int"), k}})
	}
	for i, m := range oddMethods(sample(t)) {
		if s, e := Start(m); e != api.OK && len(s.Locals)+len(s.Stack) > 0 {
			t.Error(s, e)
		}
		for j, s := range states {
			for _, n := range []int{extremes[(i+j)%len(extremes)], i, j} {
				if s, e := Caught(m, api.Handler{From: n, To: n, At: n, Class: n}, s); e != api.OK && len(s.Locals)+len(s.Stack) > 0 {
					t.Error(s, e)
				}
				for op := -1; op < api.OpLast+2; op++ {
					s, follows, e := Step(m, api.Instr{Pc: n, Op: op, N: n, Keys: extremes, To: extremes}, s)
					if (e != api.OK || !follows) && len(s.Locals)+len(s.Stack) > 0 || e != api.OK && follows {
						t.Error(s, follows, e)
					}
				}
			}
		}
	}
}

// A stack that is fuller than it may be is no fault of what only pops from it.
func TestP1FullStack(t *testing.T) {
	b := newBench(t, 1, "f", "()V")
	b.stack = 1
	b.wantRows(t, row{"aget", "|A A A null int", "none"}, row{"aput", "|A A A null int A", "none"}, row{"aget", "|A A A [ int", "ErrStack"}, row{"dup", "|A A A A", "ErrStack"}, row{"new A", "|A A", "ErrStack"})
}

// No known but a valid one fits a type.
func TestX2WrongKnowns(t *testing.T) {
	b := newBench(t, 1, "f", "()V")
	for _, text := range []string{"neg", "slen", "throw", "get A.x I", "get Object.x I", "virt Object.m ()V", "loader"} {
		x := b.instr(text)
		m := b.method(t)
		for i, k := range wrongKnowns() {
			s, follows, e := Step(m, x, api.State{Stack: []api.Known{k}})
			if got := answer(t, s, follows, e); got != "ErrType" {
				t.Errorf("%s with the known %d: %s", text, i, got)
			}
		}
	}
}

// deepState is a state whose lists go on behind their ends.
func deepState(locals, stack string) (api.State, []api.Known) {
	l, s := knowns(locals), knowns(stack)
	all := slices.Concat(l, knowns("E E E"), s, knowns("F F F"))
	return api.State{Locals: all[: len(l) : len(l)+3], Stack: all[len(l)+3 : len(l)+3+len(s)]}, all
}

func TestP3Shared(t *testing.T) {
	b := newBench(t, 0, "f", "(I)V")
	for _, c := range []struct{ x, stack string }{
		{"nop", "int"}, {"null", "int"}, {"dup", "int"}, {"swap", "int A"}, {"store 1", "int"}, {"load 1", "int"}, {"new A", "int"}, {"spec A.<init> ()V", "new0 new0"}, {"pop", "A"}, {"add", "int int"},
	} {
		x := b.instr(c.x)
		m := b.method(t)
		s, all := deepState("new0 int new0", c.stack)
		kept := slices.Clone(all)
		got, follows, e := Step(m, x, s)
		if !follows || e != api.OK || !slices.Equal(all, kept) {
			t.Error(c.x, follows, e, all, kept)
		}
		want := showState(got)
		clobber(got.Locals)
		clobber(all)
		if !slices.Equal(got.Stack, state(want).Stack) {
			t.Error("shared memory:", c.x, got.Stack, want)
		}
		copy(all, kept)
		got, _, _ = Step(m, x, s)
		clobber(got.Stack)
		if !slices.Equal(got.Locals, state(want).Locals) || !slices.Equal(all, kept) {
			t.Error("shared memory:", c.x, got.Locals, want)
		}
		caught, e := Caught(m, api.Handler{}, s)
		if e != api.OK || !slices.Equal(all, kept) {
			t.Error(e, all)
		}
		clobber(caught.Stack)
		clobber(all)
		if !slices.Equal(caught.Locals, kept[:3]) {
			t.Error("shared memory in Caught:", caught.Locals)
		}
	}
}

func clobber(l []api.Known) {
	l = l[:cap(l)]
	for i := range l {
		l[i] = api.Known{Kind: 99, N: 99}
	}
}

// What a method, an instruction and a handler hold is only read, and each call answers alike.
func TestP3P4Arguments(t *testing.T) {
	b := newBench(t, 0, "<init>", "(I)V")
	x := b.instr("spec A.<init> ()V")
	y := b.instr("switch 3 5")
	h := api.Handler{Class: b.class("E")}
	m, same := b.method(t), b.method(t)
	for range 3 {
		s, e := Start(m)
		if answer(t, s, true, e) != "this int top |" {
			t.Error(s, e)
		}
		clobber(s.Locals)
		s, _, e = Step(m, x, state("this int|this"))
		if e != api.OK || !lattice.Same(s, state("B int|")) {
			t.Error(s, e)
		}
		if _, _, e = Step(m, y, state("|int")); e != api.OK {
			t.Error(e)
		}
		if s, e = Caught(m, h, state("B|")); e != api.OK || !lattice.Same(s, state("B|E")) {
			t.Error(s, e)
		}
	}
	if !reflect.DeepEqual(m.F, same.F) || !reflect.DeepEqual(m.M, same.M) || !reflect.DeepEqual(m.L, same.L) || !reflect.DeepEqual(y, b.instr("switch 3 5")) {
		t.Error("an argument was changed")
	}
}

// The greatest method: as many new as its code has room for, each with its own place.
func TestX2Long(t *testing.T) {
	b := newBench(t, 1, "f", "()V")
	l := make([]string, 0, 4094)
	for i := range 4092 {
		l = append(l, "nop @"+show(api.Known{Kind: 4, N: i})[3:])
	}
	b.body = strings.Join(append(l, "new A @4092", "ret @4095"), ", ")
	b.wantRows(t, row{"spec A.<init> ()V", "new4092 new4091|new4092", "A new4091|"}, row{"spec A.<init> ()V", "|new4091", "ErrInit"}, row{"spec A.<init> ()V", "|new4095", "ErrInit"})
	if len(b.method(t).L) != 4094 || code.Index(b.method(t).L, 4092) != 4092 {
		t.Error(len(b.method(t).L))
	}
}
