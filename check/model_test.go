package check

import (
	"math/rand"
	"slices"
	"strconv"
	"strings"
	"testing"

	"crucible/api"
	"crucible/classfile"
	"crucible/code"
	"crucible/hier"
	"crucible/lattice"
	"crucible/transfer"
	"crucible/verify"
)

// judge is the document's words by places of instructions.
type judge struct {
	m      transfer.Method
	states map[int]api.State // of each place that is reached
}

func isPlace(l []api.Instr, pc int) bool { return code.Index(l, pc) >= 0 }

// codeOf are the instructions of a method of which there may be a typing.
func codeOf(h *hier.Table, f api.File, i int) ([]api.Instr, bool) {
	if classfile.Right(f) != api.OK || i < 0 || i >= len(f.Methods) || f.Methods[i].Flags == api.FlagAbstract {
		return nil, false
	}
	name := f.Pool[f.Pool[f.This-1].A-1].Text
	m := f.Methods[i]
	l, e := code.Decode(m.Code)
	if c, ok := h.Find(name); !ok || !c.Own || e != api.OK {
		return nil, false
	}
	for _, h := range m.Handlers {
		if !isPlace(l, h.From) || !isPlace(l, h.At) || !isPlace(l, h.To) && h.To != len(m.Code) {
			return nil, false
		}
	}
	return l, true
}

// belowAll tells whether a list goes as far as another one, and is below it as far as that goes.
func belowAll(h *hier.Table, a, b []api.Known) bool {
	for i := range b {
		if i >= len(a) || !lattice.Below(h, a[i], b[i]) {
			return false
		}
	}
	return true
}

func below(h *hier.Table, a, b api.State) bool {
	return len(a.Stack) == len(b.Stack) && belowAll(h, a.Stack, b.Stack) && belowAll(h, a.Locals, b.Locals)
}

// known tells whether what is said of a place holds for a state.
func (d *judge) known(s api.State, pc int) bool {
	said, reached := d.states[pc]
	return reached && below(d.m.H, s, said)
}

// nextOf are the places that an instruction leads to.
func (d *judge) nextOf(i int) []int {
	x := d.m.L[i]
	switch x.Op {
	case api.Goto, api.Switch, api.Ret, api.Vret, api.Throw:
		return x.To
	}
	return append([]int{d.m.L[i+1].Pc}, x.To...)
}

func (d *judge) fault(i int) api.Errno {
	x := d.m.L[i]
	s := d.states[x.Pc]
	if len(s.Locals) != d.m.M.MaxLocals || len(s.Stack) > d.m.M.MaxStack {
		return api.ErrState
	}
	for _, k := range slices.Concat(s.Locals, s.Stack) {
		if !lattice.Right(k) {
			return api.ErrState
		}
	}
	for _, h := range d.m.M.Handlers {
		if h.From > x.Pc || x.Pc >= h.To {
			continue
		}
		caught, e := transfer.Caught(d.m, h, s)
		if e != api.OK {
			return e
		}
		if !d.known(caught, h.At) {
			return api.ErrState
		}
	}
	after, follows, e := transfer.Step(d.m, x, s)
	if e != api.OK || !follows {
		return e
	}
	for _, pc := range d.nextOf(i) {
		if !d.known(after, pc) {
			return api.ErrState
		}
	}
	return api.OK
}

// modelWhere is what Where is to answer.
func modelWhere(h *hier.Table, f api.File, i int, x verify.Typed) (int, api.Errno) {
	l, ok := codeOf(h, f, i)
	if !ok {
		return 0, api.ErrArg
	}
	// Two lists of instructions are the same one if they are of the same code.
	if b, e := code.Encode(x.L); e != api.OK || b != f.Methods[i].Code || len(x.States) != len(l) || len(x.Reached) != len(l) {
		return 0, api.ErrState
	}
	d := judge{m: transfer.Method{F: f, M: f.Methods[i], H: h, L: l}, states: map[int]api.State{}}
	for k, reached := range x.Reached {
		if reached {
			d.states[l[k].Pc] = x.States[k]
		}
	}
	if start, e := transfer.Start(d.m); e != api.OK || !d.known(start, 0) {
		return 0, api.ErrState
	}
	for k, in := range l {
		if !x.Reached[k] {
			continue
		}
		if e := d.fault(k); e != api.OK {
			return in.Pc, e
		}
	}
	return -1, api.OK
}

func modelAnswer(t testing.TB, h *hier.Table, f api.File, i int, x verify.Typed) string {
	t.Helper()
	pc, e := modelWhere(h, f, i, x)
	return answerOf(t, pc, e)
}

// closed makes a typing of one that need not hold: what an instruction leads to is joined into it, until nothing changes. It reports whether no error came up; a fault leads nowhere.
func closed(m transfer.Method, x verify.Typed) (verify.Typed, bool) {
	d := judge{m: m}
	ok, changed := true, true
	join := func(s api.State, pc int, e api.Errno) {
		to := code.Index(m.L, pc)
		switch {
		case e != api.OK:
			ok = false
		case !x.Reached[to]:
			x.Reached[to], x.States[to], changed = true, lattice.Clone(s), true
		default:
			joined, e := lattice.JoinStates(m.H, x.States[to], s)
			ok = ok && e == api.OK
			if e == api.OK && !lattice.Same(joined, x.States[to]) {
				x.States[to], changed = joined, true
			}
		}
	}
	start, e := transfer.Start(m)
	join(start, 0, e)
	for changed {
		changed = false
		for i, in := range m.L {
			if !x.Reached[i] {
				continue
			}
			s := x.States[i]
			for _, h := range m.M.Handlers {
				if h.From <= in.Pc && in.Pc < h.To {
					caught, e := transfer.Caught(m, h, s)
					join(caught, h.At, e)
				}
			}
			after, follows, e := transfer.Step(m, in, s)
			ok = ok && e == api.OK
			if e != api.OK || !follows {
				continue
			}
			for _, pc := range d.nextOf(i) {
				join(after, pc, api.OK)
			}
		}
	}
	return x, ok
}

// unsaid is a typing that says nothing.
func unsaid(l []api.Instr) verify.Typed {
	return verify.Typed{L: l, States: make([]api.State, len(l)), Reached: make([]bool, len(l))}
}

func clone(x verify.Typed) verify.Typed {
	x.L, x.States, x.Reached = slices.Clone(x.L), slices.Clone(x.States), slices.Clone(x.Reached)
	for i, in := range x.L {
		x.L[i].Keys, x.L[i].To = slices.Clone(in.Keys), slices.Clone(in.To)
	}
	for i, s := range x.States {
		x.States[i] = lattice.Clone(s)
	}
	return x
}

// chance is a source of numbers below a bound.
type chance func(n int) int

func (c chance) of(l ...string) string { return l[c(len(l))] }

// types are the classes of random methods; where there are no interfaces, the last one is not among them.
func types(ifaces bool) []string {
	l := []string{"A", "B", "C", "D", "B", "C", "E", "F", "G", "Throwable", "String", "Object", "I"}
	if !ifaces {
		l = l[:len(l)-1]
	}
	return l
}

// statement is a piece of a random method: all but the rare ones leave the stack as it is. In it, r is a local that most often holds references, a one for arrays, i one for ints, s a statement, and T a type.
func (c chance) statement() string {
	if c(25) == 0 {
		return c.of("store r", "pop", "load r", "load i", "new B", "null", "int 1, vret", "load r, spec C.<init> ()V", "load r, throw", "load r, virt D.m ()V", "load r, get B.x I, store i", "load a, store i", "pop, pop", "goto 0")
	}
	return c.of(
		"null, store r", "int 5, store i", "load r, store r", "load r, store r", "load a, store r", "nop", "load i, store i",
		"load r, ifnull s", "load r, ifsome s", "load i, ifeq s", "int 5, ifne s", "goto s", "int 3, switch s 1 s 2 s", "load r, load a, same s", "load i, iflt s",
		"new A, dup, spec A.<init> ()V, store r", "new D, dup, store r, dup, spec D.<init> ()V, pop", "new C, store b", "load r, weak, deref, store r",
		"null, cast LT;, store r", "load r, cast LT;, store r", "null, cast [LT;, store a", "null, store a", "null, cast LT;, store r", "null, cast LE;, cast LT;, store r",
		"load a, int 0, aget, store r", "load a, int 0, null, aput", "load a, int 0, load r, aput", "load a, len, store i", "null, int 0, aget, pop", "null, int 0, int 0, aput",
		"load r, cast LB;, get A.x I, store i", "load r, cast LD;, virt B.m ()LA;, store r", "load r, is LT;, store i", "load r, enter", "ret", "null, throw",
	)
}

// fill puts words in for the letters of a statement.
func (c chance) fill(s string, statements int, ifaces bool) string {
	words := strings.Split(s, " ")
	for i, w := range words {
		word, comma, _ := strings.Cut(w, ",")
		switch word {
		case "r", "a", "i", "b":
			word = map[string]string{"r": c.of("0", "1", "1"), "a": "2", "i": "3", "b": "4"}[word]
			if c(40) == 0 {
				word = strconv.Itoa(c(5))
			}
		case "s":
			word = "s" + strconv.Itoa(c(statements))
		default:
			word = strings.Replace(word, "T;", c.of(types(ifaces)...)+";", 1)
		}
		words[i] = word + strings.Repeat(",", strings.Count(w, ",")) + comma
	}
	return strings.Join(words, " ")
}

// method is a random method, at whose end are places for its handlers.
func (c chance) method(ifaces bool) method {
	n := 1 + c(12)
	var l []string
	for i := range n {
		l = append(l, "s"+strconv.Itoa(i)+": "+c.fill(c.statement(), n, ifaces))
	}
	m := method{flags: 1, desc: c.of("(LB;LC;[LB;I)V", "(LE;LD;[LC;I)V", "(LB;LA;[[II)V", "(LF;LG;[LF;I)V"), stack: 3 + c(2), locals: 5}
	if c(8) == 0 {
		m.flags, m.name, m.desc = 0, "<init>", "(LB;[LC;I)V"
		if c(4) > 0 {
			l = slices.Insert(l, 0, "load 0, spec A.<init> ()V")
		}
	}
	if c(30) == 0 {
		m.stack, m.locals = c(3), c(5)
	}
	for i, s := range []string{"goto s", "store r, goto s", "pop, goto s", "store r, goto s"} {
		l = append(l, "h"+strconv.Itoa(i)+": "+c.fill(s, n, ifaces))
	}
	m.body = strings.Join(l, ", ")
	var hs []string
	for range c(5) {
		hs = append(hs, c.handler(n))
	}
	m.handlers = strings.Join(hs, ",")
	return m
}

func (c chance) handler(n int) string {
	from := c(n)
	to := from + 1 + c(n-from)
	end, at := "s"+strconv.Itoa(to), "h"+strconv.Itoa(1+c(3))
	if to == n {
		end = c.of("h0", "h2", "end")
	}
	if c(30) == 0 {
		at = "s" + strconv.Itoa(c(n))
	}
	class := c.of("", " E", " F", " G", " Deep", " E")
	if c(30) == 0 {
		class = c.of(" A", " nowhere")
	}
	return "s" + strconv.Itoa(from) + " " + end + " " + at + class
}

// value is a random Known.
func (c chance) value(l []api.Instr, ifaces bool) api.Known {
	s := c.of("top", "int", "null", "this", "new", "ref", "ref", "[int", "[[B", "wrong", "wrongtype", "wrongnumber", "nowhere")
	switch s {
	case "new":
		s += strconv.Itoa(l[c(len(l))].Pc)
	case "ref":
		s = strings.Repeat("[", c(6)/4) + c.of(types(ifaces)...)
	}
	return known(s)
}

// weaker is a Known that k is below.
func (c chance) weaker(h *hier.Table, k api.Known) api.Known {
	chain := h.Chain(k.T.Name)
	if k.Kind == api.KRef && len(chain) > 0 && c(3) > 0 {
		return lattice.Of(api.Type{Dims: k.T.Dims, Name: chain[c(len(chain))]})
	}
	return api.Known{}
}

// pick is a random one of what is known in a state, or nil.
func (c chance) pick(s api.State) *api.Known {
	n := len(s.Locals)
	if n+len(s.Stack) == 0 {
		return nil
	}
	i := c(n + len(s.Stack))
	if i >= n {
		return &s.Stack[i-n]
	}
	return &s.Locals[i]
}

// weaken makes a random part of a typing say less.
func (c chance) weaken(h *hier.Table, x verify.Typed) {
	if k := c.pick(x.States[c(len(x.States))]); k != nil {
		*k = c.weaker(h, *k)
	}
}

// spoil changes a random part of a typing.
func (c chance) spoil(h *hier.Table, x *verify.Typed, ifaces bool) {
	i := c(len(x.L))
	if len(x.States) != len(x.L) || len(x.Reached) != len(x.L) {
		return
	}
	s := &x.States[i]
	switch c(14) {
	case 0, 1, 2, 3:
		c.weaken(h, *x)
	case 4, 5, 6:
		if k := c.pick(*s); k != nil {
			*k = c.value(x.L, ifaces)
		}
	case 7:
		s.Stack = append(s.Stack, c.value(x.L, ifaces))
	case 8:
		s.Stack = s.Stack[:len(s.Stack)/2]
	case 9:
		if c(2) == 0 {
			s.Locals = append(s.Locals, api.Known{})
		} else {
			s.Locals = s.Locals[:len(s.Locals)/2]
		}
	case 10:
		x.Reached[i] = !x.Reached[i]
	case 11:
		*s = lattice.Clone(x.States[c(len(x.States))])
	case 12:
		x.Reached[i] = true
	case 13:
		if c(6) == 0 {
			c.spoilParts(x, i)
		}
	}
}

// spoilParts changes the instructions of a typing, or how much it says.
func (c chance) spoilParts(x *verify.Typed, i int) {
	in := &x.L[i]
	switch c(9) {
	case 0:
		in.Pc += c(3)
	case 1:
		in.Op = c(api.OpLast + 3)
	case 2:
		in.N ^= 1 + c(3)
	case 3:
		in.To = append(in.To, 0)
	case 4:
		in.Keys = append(in.Keys, 1)
	case 5:
		in.Keys, in.To = []int{}, append([]int{}, in.To...)
	case 6:
		x.L = x.L[:i+1]
	case 7:
		x.States = x.States[:i]
	case 8:
		x.Reached = append(x.Reached[:i], true, true)
	}
}

// checkTyping holds the answer for a typing against the model, and tells it.
func checkTyping(t *testing.T, h *hier.Table, f api.File, x verify.Typed) string {
	t.Helper()
	got, want := answer(t, h, f, 0, x), modelAnswer(t, h, f, 0, x)
	if got != want {
		t.Fatalf("%v: %v %v: %s; want %s", f.Methods[0], x.L, showTyped(x), got, want)
	}
	return got
}

func showTyped(x verify.Typed) string {
	if len(x.States) != len(x.Reached) {
		return "parts of different lengths"
	}
	return showTyping(x)
}

// plain is the table of sample without its interfaces.
func plain(t testing.TB) *hier.Table {
	t.Helper()
	h, e, at := hier.New([]api.File{
		file(0, "A", "Object"), file(0, "B", "A"), file(0, "C", "A"), file(0, "D", "B"),
		file(0, "E", "Throwable"), file(0, "F", "E"), file(0, "G", "E"),
	})
	if e != api.OK {
		t.Fatal(e, at)
	}
	return h
}

// checkAbove holds what is said of a typing that holds: where there are no interfaces, verify finds one that is below it.
func checkAbove(t *testing.T, h *hier.Table, f api.File, x verify.Typed) {
	t.Helper()
	y, e, pc := verify.Method(h, f, 0)
	if e != api.OK {
		t.Fatal("it holds:", f.Methods[0], showTyping(x), e, pc)
	}
	for i := range y.L {
		if y.Reached[i] && (!x.Reached[i] || !below(h, y.States[i], x.States[i])) {
			t.Fatal("not below:", i, showTyping(y), showTyping(x))
		}
	}
}

// checkRandom holds the answers for typings of a random method against the model and against what follows of the document's words, and counts them by their errors.
func checkRandom(t *testing.T, c chance, h *hier.Table, ifaces bool, count map[string]int) {
	t.Helper()
	f := fileOf(t, c.method(ifaces))
	l, e := code.Decode(f.Methods[0].Code)
	if e != api.OK {
		t.Fatal(e)
	}
	m := transfer.Method{F: f, M: f.Methods[0], H: h, L: l}
	found, e, _ := verify.Method(h, f, 0)
	ask := func(x verify.Typed) string {
		got := checkTyping(t, h, f, x)
		_, name, _ := strings.Cut(got, " ")
		count[name]++
		if got == fine && !ifaces {
			checkAbove(t, h, f, x)
		}
		if got == fine && showTyping(x) != showTyping(found) {
			count["holds, but not verify's"]++
		}
		return got
	}
	if e == api.OK && ask(found) != fine {
		t.Fatal("what verify found does not hold:", f.Methods[0], showTyping(found))
	}
	least, ok := closed(m, unsaid(l))
	if ok != (e == api.OK) {
		t.Fatal(f.Methods[0], showTyping(least), e)
	}
	ask(clone(least))
	for range 4 {
		x := clone(least)
		for range 1 + c(3) {
			c.spoil(h, &x, ifaces)
		}
		ask(x)
	}
	// One that says less, and one that says something of what is not reached.
	for range 2 {
		x := clone(least)
		for range 1 + c(4) {
			c.weaken(h, x)
		}
		if i := c(len(l)); c(2) == 0 && !x.Reached[i] {
			x.Reached[i], x.States[i] = true, lattice.Clone(least.States[0])
		}
		x, ok := closed(m, x)
		if got := ask(x); ok != (got == fine) {
			t.Fatal(f.Methods[0], showTyping(x), got)
		}
	}
}

func TestRandom(t *testing.T) {
	for seed, h := range []*hier.Table{plain(t), sample(t)} {
		r := rand.New(rand.NewSource(int64(seed)))
		_, ifaces := h.Find("I")
		count := map[string]int{}
		for range 2500 {
			checkRandom(t, r.Intn, h, ifaces, count)
		}
		for name, least := range map[string]int{"": 5000, "ErrState": 5000, "ErrType": 1000, "ErrStack": 500, "ErrLocal": 200, "ErrInit": 100, "ErrClass": 100, "holds, but not verify's": 1000} {
			if count[name] < least {
				t.Error("too few:", name, count)
			}
		}
	}
}

func FuzzTypings(f *testing.F) {
	h := plain(f)
	f.Add([]byte("\x00\x00\x00\x00"))
	f.Fuzz(func(t *testing.T, b []byte) {
		checkRandom(t, func(n int) int {
			if len(b) == 0 {
				return 0
			}
			i := int(b[0]) % n
			b = b[1:]
			return i
		}, h, false, map[string]int{})
	})
}
