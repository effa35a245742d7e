package verify

import (
	"math/rand"
	"reflect"
	"slices"
	"strconv"
	"strings"
	"testing"

	"crucible/api"
	"crucible/code"
	"crucible/flow"
	"crucible/hier"
	"crucible/lattice"
	"crucible/transfer"
)

// model is the document's words by places of instructions: what is known at each place that is reached, and which places are pending. next tells which of these is processed next.
type model struct {
	m       transfer.Method
	states  map[int]api.State
	pending []int
	next    func(pending []int) int
}

func leastOf(l []int) int { return slices.Min(l) }

func (d *model) propagate(s api.State, to int) api.Errno {
	old, reached := d.states[to]
	if reached {
		joined, e := lattice.JoinStates(d.m.H, old, s)
		if e != api.OK {
			return e
		}
		if slices.Equal(joined.Locals, old.Locals) && slices.Equal(joined.Stack, old.Stack) {
			return api.OK
		}
		s = joined
	}
	d.states[to] = s
	if !slices.Contains(d.pending, to) {
		d.pending = append(d.pending, to)
	}
	return api.OK
}

func (d *model) process(i int) api.Errno {
	x := d.m.L[i]
	s := lattice.Clone(d.states[x.Pc])
	for _, h := range d.m.M.Handlers {
		if h.From > x.Pc || x.Pc >= h.To {
			continue
		}
		caught, e := transfer.Caught(d.m, h, s)
		if e == api.OK {
			e = d.propagate(caught, h.At)
		}
		if e != api.OK {
			return e
		}
	}
	after, follows, e := transfer.Step(d.m, x, s)
	if e != api.OK || !follows {
		return e
	}
	var next []int
	switch x.Op {
	case api.Goto, api.Switch, api.Ret, api.Vret, api.Throw:
	default:
		next = append(next, d.m.L[i+1].Pc)
	}
	for _, pc := range append(next, x.To...) {
		if e := d.propagate(after, pc); e != api.OK {
			return e
		}
	}
	return api.OK
}

// run is what Method is to answer for a method whose code and handlers are right.
func (d *model) run() (Typed, api.Errno, int) {
	start, e := transfer.Start(d.m)
	if e != api.OK {
		return Typed{}, e, 0
	}
	d.states, d.pending = map[int]api.State{0: start}, []int{0}
	for len(d.pending) > 0 {
		pc := d.next(d.pending)
		d.pending = slices.DeleteFunc(d.pending, func(p int) bool { return p == pc })
		if e := d.process(code.Index(d.m.L, pc)); e != api.OK {
			return Typed{}, e, pc
		}
	}
	x := Typed{L: d.m.L}
	for _, in := range d.m.L {
		s, reached := d.states[in.Pc]
		x.States, x.Reached = append(x.States, s), append(x.Reached, reached)
	}
	return x, api.OK, 0
}

// checkFollows holds an answer without an error against what follows of the document's words.
func checkFollows(t *testing.T, m transfer.Method, x Typed) {
	t.Helper()
	flowing, e := flow.Reach(m.L, len(m.M.Code), m.M.Handlers)
	if e != api.OK {
		t.Fatal(e)
	}
	succ, starts := flow.Succ(m.L), flow.Starts(m.L, m.M.Handlers)
	cover, _ := flow.Cover(m.L, len(m.M.Code), m.M.Handlers)
	by := make([]bool, len(m.L)) // reached by one that is
	by[0] = true
	holds := func(s api.State, to int) {
		t.Helper()
		by[to] = true
		if !x.Reached[to] || !lattice.BelowStates(m.H, s, x.States[to]) {
			t.Fatal("not below", showKnowns(s.Stack), to, showTyped(x))
		}
	}
	stopped := false
	for i, s := range x.States {
		if !x.Reached[i] {
			if len(s.Locals)+len(s.Stack) > 0 {
				t.Fatal("a state of what is not reached", i, s)
			}
			continue
		}
		if len(s.Locals) != m.M.MaxLocals || len(s.Stack) > m.M.MaxStack || slices.ContainsFunc(slices.Concat(s.Locals, s.Stack), func(k api.Known) bool { return !lattice.Right(k) }) {
			t.Fatal("a state that may not be", i, s)
		}
		for _, h := range cover[i] {
			caught, e := transfer.Caught(m, m.M.Handlers[h], s)
			if e != api.OK {
				t.Fatal(e)
			}
			holds(caught, starts[h])
		}
		after, follows, e := transfer.Step(m, m.L[i], s)
		if e != api.OK {
			t.Fatal(e)
		}
		stopped = stopped || !follows && (m.L[i].Op == api.Aget || m.L[i].Op == api.Aput)
		for _, next := range succ[i] {
			if follows {
				holds(after, next)
			}
		}
	}
	if !slices.Equal(by, x.Reached) || !stopped && !slices.Equal(flowing, x.Reached) {
		t.Fatal("reached", x.Reached, by, flowing)
	}
	for i := range x.Reached {
		if x.Reached[i] && !flowing[i] {
			t.Fatal("reached", i, x.Reached, flowing)
		}
	}
}

// chance is a source of numbers below a bound.
type chance func(n int) int

func (c chance) of(l ...string) string { return l[c(len(l))] }

// statement is a piece of a random method: all but the rare ones leave the stack as it is. In it, r is a local that most often holds references, a one for arrays, i one for ints, s a statement, and T a type.
func (c chance) statement() string {
	if c(25) == 0 {
		return c.of("store r", "pop", "load r", "load i", "new B", "null", "int 1, vret", "load r, spec C.<init> ()V", "load r, throw", "load r, virt D.m ()V", "load r, get B.x I, store i", "load a, store i", "pop, pop", "goto 0")
	}
	return c.of(
		"null, store r", "int 5, store i", "load r, store r", "load r, store r", "load a, store r", "nop", "load i, store i",
		"load r, ifnull s", "load r, ifsome s", "load i, ifeq s", "int 5, ifne s", "goto s", "int 3, switch s 1 s 2 s", "load r, load a, same s", "load i, iflt s",
		"new A, dup, spec A.<init> ()V, store r", "new D, dup, store r, dup, spec D.<init> ()V, pop", "new C, store b", "load r, weak, deref, store r",
		"null, cast LT;, store r", "load r, cast LT;, store r", "null, cast [LT;, store a", "null, store a", "null, cast LT;, store r", "null, cast LE;, cast LT;, store r",
		"load a, int 0, aget, store r", "load a, int 0, null, aput", "load a, int 0, load r, aput", "load a, len, store i", "null, int 0, aget, pop", "null, int 0, int 0, aput",
		"load r, cast LB;, get A.x I, store i", "load r, cast LD;, virt B.m ()LA;, store r", "load r, is LT;, store i", "load r, enter", "ret", "null, throw",
	)
}

// fill puts words in for the letters of a statement.
func (c chance) fill(s string, statements int) string {
	words := strings.Split(s, " ")
	for i, w := range words {
		word, comma, _ := strings.Cut(w, ",")
		switch word {
		case "r", "a", "i", "b":
			word = map[string]string{"r": c.of("0", "1", "1"), "a": "2", "i": "3", "b": "4"}[word]
			if c(40) == 0 {
				word = strconv.Itoa(c(5))
			}
		case "s":
			word = "s" + strconv.Itoa(c(statements))
		default:
			word = strings.Replace(word, "T;", c.of("A", "B", "C", "D", "B", "C", "E", "F", "G", "Throwable", "String", "Object", "I")+";", 1)
		}
		words[i] = word + strings.Repeat(",", strings.Count(w, ",")) + comma
	}
	return strings.Join(words, " ")
}

// method is a random method, at whose end are places for its handlers.
func (c chance) method() method {
	n := 1 + c(14)
	var l []string
	for i := range n {
		l = append(l, "s"+strconv.Itoa(i)+": "+c.fill(c.statement(), n))
	}
	m := method{flags: 1, desc: c.of("(LB;LC;[LB;I)V", "(LE;LD;[LC;I)V", "(LB;LA;[[II)V", "(LF;LG;[LF;I)V"), stack: 3 + c(2), locals: 5}
	if c(8) == 0 {
		m.flags, m.name, m.desc = 0, "<init>", "(LB;[LC;I)V"
		if c(4) > 0 {
			l = slices.Insert(l, 0, "load 0, spec A.<init> ()V")
		}
	}
	if c(30) == 0 {
		m.stack, m.locals = c(3), c(5)
	}
	for i, s := range []string{"goto s", "store r, goto s", "pop, goto s", "store r, goto s"} {
		l = append(l, "h"+strconv.Itoa(i)+": "+c.fill(s, n))
	}
	m.body = strings.Join(l, ", ")
	var hs []string
	for range c(5) {
		hs = append(hs, c.handler(n))
	}
	m.handlers = strings.Join(hs, ",")
	return m
}

func (c chance) handler(n int) string {
	from := c(n)
	to := from + 1 + c(n-from)
	end, at := "s"+strconv.Itoa(to), "h"+strconv.Itoa(1+c(3))
	if to == n {
		end = c.of("h0", "h2", "end")
	}
	if c(30) == 0 {
		at = "s" + strconv.Itoa(c(n))
	}
	class := c.of("", " E", " F", " G", " Deep", " E")
	if c(30) == 0 {
		class = c.of(" A", " nowhere")
	}
	return "s" + strconv.Itoa(from) + " " + end + " " + at + class
}

// checkRandom holds the answer for a random method against the model, and tells what it was.
func checkRandom(t *testing.T, c chance, h *hier.Table) (Typed, api.Errno) {
	t.Helper()
	m := c.method()
	f := fileOf(t, m)
	x, e, pc := Method(h, f, 0)
	got := answer(t, x, e, pc)
	l, le := code.Decode(f.Methods[0].Code)
	if le != api.OK {
		t.Fatal(le)
	}
	in := transfer.Method{F: f, M: f.Methods[0], H: h, L: l}
	d := model{m: in, next: leastOf}
	y, ye, ypc := d.run()
	if want := answer(t, y, ye, ypc); got != want {
		t.Fatalf("%+v: %s; want %s", m, got, want)
	}
	// In what order else: an answer without an error is the same one, and an error is one, too.
	d.next = func(pending []int) int { return pending[c(len(pending))] }
	if y, ye, _ := d.run(); (ye == api.OK) != (e == api.OK) || e == api.OK && showTyped(y) != got {
		t.Fatalf("%+v: %s; in another order %v: %s", m, got, ye, showTyped(y))
	}
	if e != api.OK {
		return x, e
	}
	if !reflect.DeepEqual(x.L, l) {
		t.Fatal(x.L, l)
	}
	checkFollows(t, in, x)
	return x, e
}

func TestV3(t *testing.T) {
	r := rand.New(rand.NewSource(10))
	h := sample(t)
	count := map[string]int{}
	for range 15000 {
		x, e := checkRandom(t, r.Intn, h)
		count[errorNames[e]]++
		for i := range x.L {
			if !x.Reached[i] {
				count["unreached"]++
			} else if s := x.States[i]; len(s.Stack) == 1 && slices.Contains([]string{"E", "F", "G", "Deep", "Throwable"}, show(s.Stack[0])) {
				count["handler"]++
			}
			count["instruction"]++
		}
	}
	for what, least := range map[string]int{"": 5000, "ErrType": 500, "ErrStack": 500, "ErrLocal": 200, "ErrInit": 100, "ErrClass": 100, "unreached": 5000, "handler": 5000, "instruction": 100000} {
		if count[what] < least {
			t.Error("too few:", what, count)
		}
	}
}

func FuzzMethods(f *testing.F) {
	h := sample(f)
	f.Add([]byte("\x00\x00\x00\x00"))
	f.Fuzz(func(t *testing.T, b []byte) {
		checkRandom(t, func(n int) int {
			if len(b) == 0 {
				return 0
			}
			i := int(b[0]) % n
			b = b[1:]
			return i
		}, h)
	})
}
