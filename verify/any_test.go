package verify

import (
	"math/rand"
	"reflect"
	"slices"
	"strconv"
	"strings"
	"testing"

	"crucible/api"
	"crucible/classfile"
	"crucible/code"
	"crucible/flow"
	"crucible/hier"
	"crucible/transfer"
)

// Codes of any bytes, with handlers anywhere.
func TestP1Anything(t *testing.T) {
	r := rand.New(rand.NewSource(11))
	h := sample(t)
	count := map[string]int{}
	for range 20000 {
		f := fileOf(t, chance(r.Intn).method())
		m := &f.Methods[0]
		b := []byte(m.Code)
		for range r.Intn(4) {
			b[r.Intn(len(b))] = byte(r.Intn(70))
		}
		m.Code = string(b[:len(b)-r.Intn(2)*r.Intn(3)])
		for i := range m.Handlers {
			if r.Intn(8) == 0 {
				m.Handlers[i].To += r.Intn(3) - 1
			}
			if r.Intn(8) == 0 {
				m.Handlers[i].Class = r.Intn(len(f.Pool) + 2)
			}
		}
		x, e, pc := Method(h, f, 0)
		got := answer(t, x, e, pc)
		count[errorNames[e]]++
		if want := early(f); want != api.OK && got != errorNames[want]+" 0" {
			t.Fatal(f.Methods[0], got, want)
		}
	}
	for _, name := range errorNames {
		if name != "ErrDesc" && name != "ErrKind" && count[name] == 0 {
			t.Error("none:", name, count)
		}
	}
}

// early is the error that a file's first method has by itself, whatever its instructions do.
func early(f api.File) api.Errno {
	if classfile.Right(f) != api.OK {
		return api.ErrArg
	}
	l, e := code.Decode(f.Methods[0].Code)
	if e == api.OK {
		_, e = flow.Cover(l, len(f.Methods[0].Code), f.Methods[0].Handlers)
	}
	return e
}

// busy is a method of many states: joins, handlers, a switch.
var busy = method{
	flags: 1, stack: 4, locals: 4, desc: "(LB;[LC;)V",
	body:     "top: load 0, ifnull b, int 5, switch top 1 b 2 c, b: null, cast LC;, store 0, new A, dup, spec A.<init> ()V, store 2, goto top, c: load 1, int 0, aget, store 3, goto top, at: store 3, ret, pop, ret",
	handlers: "top b at E,b c at F,top c at",
}

// clobber fills a list to the end of what it has room for.
func clobber[T any](l []T, v T) {
	l = l[:cap(l)]
	for i := range l {
		l[i] = v
	}
}

// Nothing that an answer holds is shared, neither with what was given nor within it.
func TestP3Shared(t *testing.T) {
	h := sample(t)
	// In the second one, a state goes to two instructions, and to no other one.
	two := method{flags: 1, stack: 2, locals: 1, body: "null, null, ifnull b, pop, ret, b: pop, ret"}
	f, same := fileOf(t, busy, two), fileOf(t, busy, two)
	want, e, at, pc := File(h, f)
	if e != api.OK || len(want[0].L) < 20 {
		t.Fatal(e, at, pc)
	}
	for i := range want {
		for k := range want[i].L {
			got, _, _, _ := File(h, f)
			x := &got[i]
			s := &x.States[k]
			clobber(s.Locals, api.Known{Kind: 99})
			if !slices.Equal(s.Stack, want[i].States[k].Stack) {
				t.Fatal("shared memory: the stack", i, k)
			}
			clobber(s.Stack, api.Known{Kind: 99})
			clobber(x.L[k].To, 99)
			clobber(x.L[k].Keys, 99)
			*s, x.L[k] = want[i].States[k], want[i].L[k]
			if !reflect.DeepEqual(got, want) {
				t.Fatal("shared memory:", i, k)
			}
		}
	}
	for i := range want {
		x, _, _ := Method(h, f, i)
		clobber(x.L, api.Instr{Op: 99})
		clobber(x.States, api.State{})
		clobber(x.Reached, false)
		if y, e, _ := Method(h, f, i); e != api.OK || !reflect.DeepEqual(y, want[i]) {
			t.Error("kept memory:", i, e)
		}
	}
	if !reflect.DeepEqual(f, same) {
		t.Error("the file was changed")
	}
	// What was answered stays, though the file changes.
	got, _, _ := Method(h, f, 0)
	clobber(f.Methods[0].Handlers, api.Handler{From: 99})
	clobber(f.Pool, api.Const{Tag: 99, Text: "x"})
	clobber(f.Methods, api.Member{})
	if !reflect.DeepEqual(got, want[0]) {
		t.Error("shared memory: the file")
	}
}

// Behind the ends of what is given, nothing is read.
func TestP3Behind(t *testing.T) {
	h := sample(t)
	f := fileOf(t, busy)
	want, _, _ := Method(h, f, 0)
	m := &f.Methods[0]
	f.Pool = append(f.Pool, api.Const{Tag: 99})[:len(f.Pool)]
	m.Handlers = append(m.Handlers, api.Handler{From: 99})[:len(m.Handlers)]
	f.Methods = append(f.Methods, api.Member{Flags: 99})[:1]
	for range 3 {
		if got, e, pc := Method(h, f, 0); e != api.OK || pc != 0 || !reflect.DeepEqual(got, want) {
			t.Error(e, pc)
		}
	}
	if _, e, _ := Method(h, f, 1); e != api.ErrArg {
		t.Error(e)
	}
	if l, e, _, _ := File(h, f); e != api.OK || len(l) != 1 {
		t.Error(e, len(l))
	}
}

// Nothing is changed in the table by a question.
func TestP4(t *testing.T) {
	h := sample(t)
	r := rand.New(rand.NewSource(12))
	var fs []api.File
	var wants []string
	ask := func(f api.File) string {
		x, e, pc := Method(h, f, 0)
		return answer(t, x, e, pc)
	}
	for range 200 {
		f := fileOf(t, chance(r.Intn).method())
		fs, wants = append(fs, f), append(wants, ask(f))
	}
	h = sample(t)
	for i, f := range slices.Backward(fs) {
		if got := ask(f); got != wants[i] {
			t.Error(got, wants[i])
		}
	}
}

// times is an instruction n times, each with a comma behind it.
func times(n int, s string) string { return strings.Repeat(s+", ", n) }

// The longest codes, with as many handlers, keys and jumps as there may be.
func TestV1Long(t *testing.T) {
	h := sample(t)
	all := strings.TrimSuffix(strings.Repeat("0 at at,", 32), ",")
	nops := method{flags: 1, stack: 64, locals: 64, body: times(4093, "nop") + "ret, at: pop, ret"}
	handled, wrong := nops, nops
	handled.handlers = all
	wrong.body, wrong.handlers = times(4092, "nop")+"ret, at: pop, pop, ret", all
	keys := "top"
	for i := range 1000 {
		keys += " " + strconv.Itoa(i) + " a" + strconv.Itoa(i%80)
	}
	choose := "top: int 5, switch " + keys
	for i := range 80 {
		choose += ", a" + strconv.Itoa(i) + ": nop"
	}
	for _, c := range []struct {
		m    method
		want string // of the last instruction, or an error
	}{
		{nops, "-"}, {handled, strings.Repeat("top ", 63) + "top|"}, {wrong, "ErrStack 4094"},
		{method{flags: 1, stack: 64, body: times(64, "null") + times(63, "pop") + "throw"}, "|null"},
		{method{flags: 1, stack: 64, body: times(65, "null") + times(64, "pop") + "throw"}, "ErrStack 64"},
		{method{flags: 1, stack: 1, body: "goto a, b: ret, " + times(4088, "pop") + "a: goto b"}, "|"},
		{method{flags: 1, stack: 1, body: times(1000, "null, ifnull 0") + "ret"}, "|"},
		{method{flags: 1, stack: 1, body: choose + ", ret"}, "|"},
	} {
		f := fileOf(t, c.m)
		x, e, pc := Method(h, f, 0)
		got := answer(t, x, e, pc)
		if got = got[strings.LastIndex(got, ", ")+1:]; strings.TrimSpace(got) != c.want {
			t.Errorf("%.60s: %s; want %s", c.m.body, got, c.want)
		}
	}
}

// Values move through all locals in many rounds, and become less known in each.
func TestV1Rounds(t *testing.T) {
	const classes, locals = 30, 20
	files := []api.File{file(0, "A", "Object"), file(0, "B", "A"), file(0, "C0", "Object")}
	for i := 1; i < classes; i++ {
		files = append(files, file(0, "C"+strconv.Itoa(i), "C"+strconv.Itoa(i-1)))
	}
	h, e, at := hier.New(files)
	if e != api.OK {
		t.Fatal(e, at)
	}
	body := ""
	for i := range locals {
		body += "null, cast LC" + strconv.Itoa(classes-1) + ";, store " + strconv.Itoa(i) + ", "
	}
	body += "top: nop"
	for i := locals - 1; i > 0; i-- {
		body += ", load " + strconv.Itoa(i-1) + ", store " + strconv.Itoa(i)
	}
	for i := classes - 2; i >= 0; i-- {
		body += ", null, cast LC" + strconv.Itoa(i) + ";, store 0, null, ifnull top"
	}
	f := fileOf(t, method{flags: 1, stack: 1, locals: locals, body: body + ", goto top"})
	x, e, pc := Method(h, f, 0)
	if e != api.OK {
		t.Fatal(e, pc)
	}
	top := x.States[3*locals]
	for _, k := range top.Locals {
		if show(k) != "C0" {
			t.Error(top)
		}
	}
	checkFollows(t, transfer.Method{F: f, M: f.Methods[0], H: h, L: x.L}, x)
}
