package flow

import (
	"math/rand"
	"slices"
	"testing"

	"crucible/api"
	"crucible/code"
)

// made is a code of bytes: its ops, then the places that its jumps and handlers name, most of them right.
func made(t testing.TB, b []byte) ([]api.Instr, int, []api.Handler) {
	next := func() int {
		if len(b) == 0 {
			return 0
		}
		n := int(b[0])
		b = b[1:]
		return n
	}
	ops := []int{api.Nop, api.Ret, api.Goto, api.IfEq, api.Switch, api.Load, api.Throw, api.IfNull, api.Int, api.Vret}
	l := make([]api.Instr, 1+next()%12)
	size := 0
	for i := range l {
		l[i] = api.Instr{Pc: size, Op: ops[next()%len(ops)]}
		switch code.Form(l[i].Op) {
		case 's':
			l[i].Keys = make([]int, next()%4)
			l[i].To = make([]int, 1+len(l[i].Keys))
			size += 4 + 4*len(l[i].Keys)
		case 'j':
			l[i].To = make([]int, 1)
			size += 2
		case 'n':
			size += 2
		case 'b':
			size++
		}
		size++
	}
	if last := len(l) - 1; !code.Ends(l[last].Op) {
		l = append(l, api.Instr{Pc: size, Op: api.Ret})
		size++
	}
	for i := range l {
		for j := range l[i].To {
			l[i].To[j] = l[next()%len(l)].Pc
		}
	}
	place := func() int {
		n := next()
		if n >= 250 {
			return n - 252
		}
		if n %= len(l) + 1; n < len(l) {
			return l[n].Pc
		}
		return size
	}
	hs := make([]api.Handler, next()%5)
	for i := range hs {
		hs[i] = api.Handler{From: place(), To: place(), At: place(), Class: next()}
	}
	l, size = recoded(t, l)
	return l, size, hs
}

func isFinal(in api.Instr) bool {
	return slices.Contains([]int{api.Goto, api.Switch, api.Ret, api.Vret, api.Throw}, in.Op)
}

func covers(h api.Handler, in api.Instr) bool { return h.From <= in.Pc && in.Pc < h.To }

// follows tells whether y may come behind x: the document's words, by positions.
func follows(l []api.Instr, x, y int) bool {
	return y == x+1 && !isFinal(l[x]) || slices.Contains(l[x].To, l[y].Pc)
}

// rightHandler tells whether a handler is as Cover asks.
func rightHandler(l []api.Instr, size int, h api.Handler) bool {
	is := func(pc int) bool { return slices.ContainsFunc(l, func(in api.Instr) bool { return in.Pc == pc }) }
	return is(h.From) && is(h.At) && (is(h.To) || h.To == size)
}

func checkSucc(t *testing.T, l []api.Instr) [][]int {
	t.Helper()
	succ := Succ(l)
	if len(succ) != len(l) {
		t.Fatal("Succ", l, succ)
	}
	for x := range l {
		// By the order of the targets, the next one ahead of all.
		order := l[x].To
		if !isFinal(l[x]) {
			order = slices.Insert(slices.Clone(order), 0, l[x+1].Pc)
		}
		places := make([]int, 0)
		for y := range l {
			if follows(l, x, y) != slices.Contains(succ[x], y) {
				t.Fatal("Succ", l, x, y, succ[x])
			}
		}
		for _, y := range succ[x] {
			places = append(places, slices.Index(order, l[y].Pc))
		}
		if !slices.IsSorted(places) || len(slices.Compact(slices.Clone(places))) != len(places) {
			t.Fatal("the order of Succ", l, x, succ[x])
		}
	}
	return succ
}

func checkHandlers(t *testing.T, l []api.Instr, size int, hs []api.Handler) bool {
	t.Helper()
	starts := Starts(l, hs)
	cover, e := Cover(l, size, hs)
	right := true
	if len(starts) != len(hs) {
		t.Fatal("Starts", l, hs, starts)
	}
	for h := range hs {
		right = right && rightHandler(l, size, hs[h])
		if starts[h] != slices.IndexFunc(l, func(in api.Instr) bool { return in.Pc == hs[h].At }) {
			t.Fatal("Starts", l, hs, starts)
		}
	}
	if right != (e == api.OK) || !right && (e != api.ErrJump || len(cover) != 0) || right && len(cover) != len(l) {
		t.Fatal("Cover", l, size, hs, cover, e)
	}
	for i := range cover {
		var want []int
		for h := range hs {
			if covers(hs[h], l[i]) {
				want = append(want, h)
			}
		}
		if !slices.Equal(cover[i], want) {
			t.Fatal("Cover", l, hs, i, cover[i], want)
		}
	}
	return right
}

// checkReach holds what Reach answers against the least list for which the document's words are true, and what follows of it.
func checkReach(t *testing.T, l []api.Instr, size int, hs []api.Handler) {
	t.Helper()
	want := make([]bool, len(l))
	want[0] = true
	for range l {
		for x := range l {
			for y := range l {
				by := func(h api.Handler) bool { return covers(h, l[x]) && h.At == l[y].Pc }
				if want[x] && (follows(l, x, y) || slices.ContainsFunc(hs, by)) {
					want[y] = true
				}
			}
		}
	}
	got, e := Reach(l, size, hs)
	if e != api.OK || !slices.Equal(got, want) {
		t.Fatal("Reach", l, hs, marks(got), e, marks(want))
	}
	back, succ := Back(l), Succ(l)
	loops, ends := false, false
	for x := range l {
		if back[x] != slices.ContainsFunc(succ[x], func(y int) bool { return y <= x }) {
			t.Fatal("Back", l, x, back[x])
		}
		loops = loops || got[x] && back[x]
		ends = ends || got[x] && isFinal(l[x]) && len(succ[x]) == 0
		for _, y := range succ[x] {
			if got[x] && !got[y] {
				t.Fatal("a successor is not reached", l, x, y)
			}
		}
	}
	if !loops && !ends {
		t.Fatal("no end is reached, and no loop", l, hs)
	}
}

func checkFlow(t *testing.T, b []byte) {
	t.Helper()
	l, size, hs := made(t, b)
	checkSucc(t, l)
	if checkHandlers(t, l, size, hs) {
		checkReach(t, l, size, hs)
	} else if r, e := Reach(l, size, hs); e != api.ErrJump || len(r) != 0 {
		t.Fatal("Reach", l, size, hs, r, e)
	}
}

func TestW4(t *testing.T) {
	r := rand.New(rand.NewSource(8))
	for range 100000 {
		b := make([]byte, 1+r.Intn(60))
		r.Read(b)
		checkFlow(t, b)
	}
}

func FuzzFlow(f *testing.F) {
	f.Add([]byte("\x03\x05\x03\x01\x02\x03\x00\x01\x00\x02\x02"))
	f.Add([]byte("\x02\x00\x04\x03\x01\x02\x00\x01\x00\x04\x00\x01\x02"))
	f.Fuzz(checkFlow)
}
