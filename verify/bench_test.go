package verify

import (
	"slices"
	"strconv"
	"strings"
	"testing"

	"crucible/api"
	"crucible/classfile"
	"crucible/code"
	"crucible/hier"
)

// method is a method in short form.
type method struct {
	flags         int
	name, desc    string // m and ()V, if nothing is said
	stack, locals int
	// The instructions are parted by commas. A label with a colon stands ahead of one, jumps name labels: here: null, ifnull here, ret.
	body string
	// The handlers are parted by commas: from, to, at, and a class unless it is for all. The places are labels, numbers, or end.
	handlers string
}

// static is a static method ()V with a stack of two and one local, as in the document's examples.
func static(body string) method { return method{flags: 1, stack: 2, locals: 1, body: body} }

// pool are the constants of a file that grows.
type pool struct{ l []api.Const }

// add is the number of a constant, be it there or new.
func (p *pool) add(c api.Const) int {
	i := slices.Index(p.l, c)
	if i < 0 {
		i = len(p.l)
		p.l = append(p.l, c)
	}
	return i + 1
}

func (p *pool) text(s string) int  { return p.add(api.Const{Tag: api.PoolName, Text: s}) }
func (p *pool) class(s string) int { return p.add(api.Const{Tag: api.PoolClass, A: p.text(s)}) }
func (p *pool) number(s string) int {
	return p.add(api.Const{Tag: api.PoolInt, N: number(s)})
}

func number(s string) int {
	n, err := strconv.Atoi(s)
	if err != nil {
		panic(s)
	}
	return n
}

// link is the number of the constant that an op leads to: of a class, a type, a text, a number, or of a member of the form A.m ()V.
func (p *pool) link(op int, s string) int {
	switch op {
	case api.Int:
		return p.number(s)
	case api.New:
		return p.class(s)
	case api.Text:
		return p.add(api.Const{Tag: api.PoolText, A: p.text(s)})
	case api.Array, api.Cast, api.Is:
		return p.add(api.Const{Tag: api.PoolType, A: p.text(s)})
	}
	class, rest, _ := strings.Cut(s, ".")
	name, desc, _ := strings.Cut(rest, " ")
	c := api.Const{Tag: api.PoolMethod, A: p.class(class), B: p.text(name), C: p.text(desc)}
	if op >= api.Get && op <= api.Sput {
		c.Tag = api.PoolField
	}
	return p.add(c)
}

// assembly is a code that grows: its instructions, where jumps are still labels, and where labels are.
type assembly struct {
	*pool
	l      []api.Instr
	jumps  [][]string
	places map[string]int
	size   int
}

func (a *assembly) add(s string) {
	for {
		label, rest, ok := strings.Cut(s, ": ")
		if !ok {
			break
		}
		a.places[label] = a.size
		s = rest
	}
	name, rest, _ := strings.Cut(s, " ")
	op, ok := code.Op(name)
	if !ok {
		panic(s)
	}
	x := api.Instr{Pc: a.size, Op: op}
	var jumps []string
	switch code.Form(op) {
	case '-':
		a.size++
	case 'b':
		x.N = number(rest)
		a.size += 2
	case 'n':
		x.N = a.link(op, rest)
		a.size += 3
	case 'j':
		jumps = []string{rest}
		a.size += 3
	case 's': // the default, and then keys and labels
		words := strings.Fields(rest)
		jumps = words[:1]
		for pair := range slices.Chunk(words[1:], 2) {
			x.Keys = append(x.Keys, a.number(pair[0]))
			jumps = append(jumps, pair[1])
		}
		a.size += 1 + 4*len(jumps)
	}
	a.l = append(a.l, x)
	a.jumps = append(a.jumps, jumps)
}

// place is where a label is; a number is a place by itself.
func (a *assembly) place(s string) int {
	if n, ok := a.places[s]; ok {
		return n
	}
	return number(s)
}

// assemble is the member of a method in short form.
func (p *pool) assemble(t testing.TB, m method) api.Member {
	t.Helper()
	if m.name == "" {
		m.name = "m"
	}
	if m.desc == "" {
		m.desc = "()V"
	}
	r := api.Member{Flags: m.flags, Name: p.text(m.name), Desc: p.text(m.desc), MaxStack: m.stack, MaxLocals: m.locals}
	if m.body == "" {
		return r
	}
	a := assembly{pool: p, places: map[string]int{}}
	for _, s := range strings.Split(m.body, ", ") {
		a.add(s)
	}
	for i, jumps := range a.jumps {
		for _, j := range jumps {
			a.l[i].To = append(a.l[i].To, a.place(j))
		}
	}
	a.places["end"] = a.size
	for _, s := range strings.FieldsFunc(m.handlers, func(r rune) bool { return r == ',' }) {
		words := strings.Fields(s)
		h := api.Handler{From: a.place(words[0]), To: a.place(words[1]), At: a.place(words[2])}
		if len(words) > 3 {
			h.Class = p.class(words[3])
		}
		r.Handlers = append(r.Handlers, h)
	}
	var e api.Errno
	if r.Code, e = code.Encode(a.l); e != api.OK {
		t.Fatal(m.body, e)
	}
	return r
}

// file is the file of a class without members.
func file(flags int, name, super string, ifaces ...string) api.File {
	var p pool
	f := api.File{Flags: flags, This: p.class(name), Super: p.class(super)}
	for _, i := range ifaces {
		f.Ifaces = append(f.Ifaces, p.class(i))
	}
	f.Pool = p.l
	return f
}

// fileOf is the file of the class B, which is below A, with methods.
func fileOf(t testing.TB, ms ...method) api.File {
	t.Helper()
	f := file(0, "B", "A")
	p := pool{f.Pool}
	for i, m := range ms {
		if m.name == "" {
			m.name = "m" + strconv.Itoa(i)
		}
		f.Methods = append(f.Methods, p.assemble(t, m))
	}
	f.Pool = p.l
	if e := classfile.Right(f); e != api.OK {
		t.Fatal(e)
	}
	return f
}

// sample is a table of B and other classes: A is above B and C, D below B, E below Throwable, F and G below E; I and J above it are interfaces.
func sample(t testing.TB) *hier.Table {
	t.Helper()
	h, e, at := hier.New([]api.File{
		file(0, "A", "Object", "I"), file(0, "B", "A"), file(0, "C", "A"), file(0, "D", "B", "J"),
		file(0, "E", "Throwable"), file(0, "F", "E"), file(0, "G", "E"), file(3, "I", "Object"), file(3, "J", "Object", "I"),
	})
	if e != api.OK {
		t.Fatal(e, at)
	}
	return h
}

func show(k api.Known) string {
	switch k.Kind {
	case api.KTop:
		return "top"
	case api.KInt:
		return "int"
	case api.KNull:
		return "null"
	case api.KNew:
		return "new" + strconv.Itoa(k.N)
	case api.KThis:
		return "this"
	}
	if k.T.Name == "" {
		k.T.Name = "int"
	}
	return strings.Repeat("[", k.T.Dims) + k.T.Name
}

func showKnowns(l []api.Known) string {
	var s []string
	for _, k := range l {
		s = append(s, show(k))
	}
	return strings.Join(s, " ")
}

// showTyped are the states of a typing, parted by commas: of each the locals, a bar and the stack; a dash is one that is not reached.
func showTyped(x Typed) string {
	var l []string
	for i, s := range x.States {
		if !x.Reached[i] && len(s.Locals)+len(s.Stack) == 0 {
			l = append(l, "-")
			continue
		}
		l = append(l, showKnowns(s.Locals)+"|"+showKnowns(s.Stack))
	}
	return strings.Join(l, ", ")
}

var errorNames = map[api.Errno]string{
	api.ErrArg: "ErrArg", api.ErrShort: "ErrShort", api.ErrOp: "ErrOp", api.ErrJump: "ErrJump", api.ErrEnd: "ErrEnd", api.ErrLocal: "ErrLocal", api.ErrStack: "ErrStack",
	api.ErrType: "ErrType", api.ErrPool: "ErrPool", api.ErrClass: "ErrClass", api.ErrKind: "ErrKind", api.ErrDesc: "ErrDesc", api.ErrInit: "ErrInit",
}

// answer is an answer of Method as a text: its states, or its error and the place.
func answer(t testing.TB, x Typed, e api.Errno, pc int) string {
	t.Helper()
	if e == api.OK {
		if len(x.L) != len(x.States) || len(x.L) != len(x.Reached) || pc != 0 {
			t.Error("the parts of a Typed:", len(x.L), len(x.States), len(x.Reached), pc)
		}
		return showTyped(x)
	}
	if len(x.L)+len(x.States)+len(x.Reached) > 0 {
		t.Error("a Typed beside", e)
	}
	if errorNames[e] == "" {
		t.Error("no error of this layer:", e)
	}
	return errorNames[e] + " " + strconv.Itoa(pc)
}

// wantRows holds the answers of Method, and those of File for a file of that one method.
func wantRows(t *testing.T, rows []row) {
	t.Helper()
	h := sample(t)
	for _, r := range rows {
		f := fileOf(t, r.m)
		x, e, pc := Method(h, f, 0)
		if got := answer(t, x, e, pc); got != r.want {
			t.Errorf("%s with %s: %s; want %s", r.m.body, r.m.handlers, got, r.want)
		}
		l, fe, at, fpc := File(h, f)
		if fe != e || at != 0 || fpc != pc || (len(l) == 1) != (e == api.OK) {
			t.Errorf("File: %s with %s: %v %v %v; want %v %v", r.m.body, r.m.handlers, fe, at, fpc, e, pc)
		}
		for _, y := range l {
			if showTyped(y) != showTyped(x) {
				t.Errorf("File: %s: %s; want %s", r.m.body, showTyped(y), showTyped(x))
			}
		}
	}
}

// row is a method and the answer of Method for it.
type row struct {
	m    method
	want string
}
