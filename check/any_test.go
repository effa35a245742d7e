package check

import (
	"math"
	"math/rand"
	"reflect"
	"slices"
	"strconv"
	"strings"
	"testing"

	"crucible/api"
	"crucible/hier"
	"crucible/verify"
)

// anything is a typing of any numbers and texts.
func (c chance) anything(l []api.Instr) verify.Typed {
	numbers := []int{0, 1, 2, 3, -1, 4, 5, math.MinInt, math.MaxInt, 1 << 32}
	number := func() int { return numbers[c(len(numbers))] }
	knowns := func() []api.Known {
		l := make([]api.Known, c(7))
		for i := range l {
			l[i] = api.Known{Kind: number(), T: api.Type{Dims: number(), Name: c.of("", "A", "Object", "\xff", "a b", strings.Repeat("x", 65))}, N: number()}
			if c(2) == 0 {
				l[i] = known("top")
			}
		}
		return l
	}
	x := verify.Typed{L: slices.Clone(l)}
	if c(8) == 0 {
		x.L = make([]api.Instr, c(len(l)+3))
		for i := range x.L {
			x.L[i] = api.Instr{Pc: number(), Op: number(), N: number(), Keys: make([]int, c(3)), To: make([]int, c(3))}
		}
	}
	x.States, x.Reached = make([]api.State, len(l)+c(11)/10), make([]bool, len(l)+c(11)/10)
	for i := range x.States {
		x.States[i] = api.State{Locals: knowns(), Stack: knowns()}
	}
	for i := range x.Reached {
		x.Reached[i] = i == 0 || c(2) == 0
	}
	if c(2) == 0 {
		x.States[0] = api.State{Locals: slices.Repeat([]api.Known{{}}, 5)}
	}
	return x
}

func TestP1Anything(t *testing.T) {
	r := rand.New(rand.NewSource(12))
	c := chance(r.Intn)
	h := sample(t)
	count := map[string]int{}
	for range 5000 {
		f := fileOf(t, c.method(true))
		l, ok := codeOf(h, f, 0)
		if !ok {
			t.Fatal(f)
		}
		for range 3 {
			count[checkTyping(t, h, f, c.anything(l))]++
		}
		// Codes of any bytes, with handlers anywhere.
		m := &f.Methods[0]
		b := []byte(m.Code)
		for range r.Intn(3) {
			b[r.Intn(len(b))] = byte(r.Intn(70))
		}
		m.Code = string(b[:len(b)-r.Intn(2)*r.Intn(3)])
		for i := range m.Handlers {
			if r.Intn(8) == 0 {
				m.Handlers[i].To += r.Intn(3) - 1
			}
			if r.Intn(8) == 0 {
				m.Handlers[i].Class = r.Intn(len(f.Pool) + 2)
			}
		}
		x, _, _ := verify.Method(h, f, 0)
		count[checkTyping(t, h, f, x)]++
	}
	if len(count) < 10 || count["0 ErrArg"] < 500 || count["0 ErrState"] < 5000 || count[fine] < 500 {
		t.Error(count)
	}
}

// behind adds something wrong behind the end of a list.
func behind[T any](l []T, v T) []T { return append(slices.Clip(l), v)[:len(l)] }

// full is a list to the end of what it has room for.
func full[T any](l []T) []T { return slices.Clone(l[:cap(l)]) }

// Behind the ends of what is given, nothing is read or written, and nothing that is given is changed.
func TestP3(t *testing.T) {
	h := sample(t)
	all := method{
		flags: 1, stack: 4, locals: 4, desc: "(LB;[LC;)V",
		body:     "top: load 0, ifnull b, int 5, switch top 1 b 2 c, b: null, cast LC;, store 0, new A, dup, spec A.<init> ()V, store 2, goto top, c: load 1, int 0, aget, store 3, goto top, at: store 3, ret, pop, ret",
		handlers: "top b at E,b c at F,top c at",
	}
	f := fileOf(t, all, static("ret"))
	x, e, _ := verify.Method(h, f, 0)
	if e != api.OK || len(x.L) < 20 {
		t.Fatal(e)
	}
	bad := api.Known{Kind: 99}
	for i := range x.L {
		x.L[i].Keys, x.L[i].To = behind(x.L[i].Keys, 99), behind(x.L[i].To, 99)
		x.States[i].Locals, x.States[i].Stack = behind(x.States[i].Locals, bad), behind(x.States[i].Stack, bad)
	}
	x.L, x.States, x.Reached = behind(x.L, api.Instr{Op: 99}), behind(x.States, api.State{Stack: []api.Known{bad}}), behind(x.Reached, true)
	f.Pool, f.Methods = behind(f.Pool, api.Const{Tag: 99}), behind(f.Methods, api.Member{Flags: 99})
	f.Methods[0].Handlers = behind(f.Methods[0].Handlers, api.Handler{From: 99})
	words := func() []any {
		l := []any{full(x.L), full(x.States), full(x.Reached), full(f.Pool), full(f.Methods), full(f.Methods[0].Handlers)}
		for i := range x.L {
			l = append(l, full(x.L[i].Keys), full(x.L[i].To), full(x.States[i].Locals), full(x.States[i].Stack))
		}
		return l
	}
	before := words()
	for range 3 {
		if got := answer(t, h, f, 0, x); got != fine {
			t.Error(got)
		}
		if got := answer(t, h, f, 2, x); got != "0 ErrArg" {
			t.Error(got)
		}
		if got := answer(t, h, f, 1, x); got != "0 ErrState" {
			t.Error(got)
		}
	}
	if !reflect.DeepEqual(before, words()) {
		t.Error("what was given was changed")
	}
}

// Nothing is kept from one question to the next one.
func TestP4(t *testing.T) {
	c := chance(rand.New(rand.NewSource(13)).Intn)
	var fs []api.File
	var typings []verify.Typed
	var wants []string
	h := sample(t)
	for len(fs) < 200 {
		f := fileOf(t, c.method(true))
		x, e, _ := verify.Method(h, f, 0)
		if e != api.OK {
			continue
		}
		c.spoil(h, &x, true)
		fs, typings, wants = append(fs, f), append(typings, x), append(wants, answer(t, h, f, 0, x))
	}
	h = sample(t)
	for i, f := range slices.Backward(fs) {
		if got := answer(t, h, f, 0, typings[i]); got != wants[i] {
			t.Error(got, wants[i])
		}
	}
}

// The longest codes, with as many handlers, keys and jumps as there may be.
func TestK1Long(t *testing.T) {
	h := sample(t)
	all := strings.TrimSuffix(strings.Repeat("0 at at,", 32), ",")
	nops := method{flags: 1, stack: 64, locals: 64, body: strings.Repeat("nop, ", 4093) + "ret, at: pop, ret"}
	handled := nops
	handled.handlers = all
	keys := "top"
	for i := range 1000 {
		keys += " " + strconv.Itoa(i) + " a" + strconv.Itoa(i%80)
	}
	choose := "top: int 5, switch " + keys
	for i := range 80 {
		choose += ", a" + strconv.Itoa(i) + ": nop"
	}
	for i, c := range []struct {
		m    method
		at   int    // an instruction
		say  string // what is said of it instead
		want string
	}{
		{nops, 0, "", fine}, {nops, 4000, "null", "3999 ErrState"},
		{handled, 0, "", fine}, {handled, 4094, "Throwable", "0 ErrState"}, {handled, 4000, "null", "3999 ErrState"},
		{method{flags: 1, stack: 64, body: strings.Repeat("null, ", 64) + strings.Repeat("pop, ", 63) + "throw"}, 0, "", fine},
		{method{flags: 1, stack: 1, body: strings.Repeat("null, ifnull 0, ", 1000) + "ret"}, 0, "", fine},
		{method{flags: 1, stack: 1, body: choose + ", ret"}, 0, "", fine},
		{method{flags: 1, stack: 1, locals: 1, body: choose + ", ret"}, 81, "null", "3 ErrState"}, // only the last key leads there
	} {
		f := fileOf(t, c.m)
		x, e, pc := verify.Method(h, f, 0)
		if e != api.OK {
			t.Fatal(i, e, pc)
		}
		if c.say != "" {
			x.States[c.at].Locals[0] = known(c.say)
		}
		if got := answer(t, h, f, 0, x); got != c.want {
			t.Error(i, got, c.want)
		}
	}
}

// A long code of which much is known, under 32 handlers: 64 locals are of a class with a long name.
func TestP1Long(t *testing.T) {
	name := strings.Repeat("é", 64)
	h, e, at := hier.New([]api.File{file(0, "A", "Object"), file(0, "B", "A"), file(0, name, "Object")})
	if e != api.OK {
		t.Fatal(e, at)
	}
	body := ""
	for i := range 64 {
		body += "null, cast L" + name + ";, store " + strconv.Itoa(i) + ", "
	}
	body += "top: nop, " + strings.Repeat("nop, ", 3500) + "goto top"
	var hs []string
	for i := range 32 {
		label := "h" + strconv.Itoa(i)
		body += ", " + label + ": pop, ret"
		hs = append(hs, "top h0 "+label)
	}
	f := fileOf(t, method{flags: 1, stack: 1, locals: 64, body: body, handlers: strings.Join(hs, ",")})
	x, e, pc := verify.Method(h, f, 0)
	if e != api.OK {
		t.Fatal(e, pc)
	}
	if got := answer(t, h, f, 0, x); got != fine {
		t.Error(got)
	}
	x.States[len(x.L)-2].Locals[63] = known("null")
	if got := answer(t, h, f, 0, x); got != strconv.Itoa(x.L[3*64].Pc)+" ErrState" {
		t.Error(got)
	}
}
