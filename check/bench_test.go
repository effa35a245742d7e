package check

import (
	"slices"
	"strconv"
	"strings"
	"testing"

	"crucible/api"
	"crucible/classfile"
	"crucible/code"
	"crucible/hier"
	"crucible/verify"
)

// method is a method in short form.
type method struct {
	flags         int
	name, desc    string // m and ()V, if nothing is said
	stack, locals int
	// The instructions are parted by commas. A label with a colon stands ahead of one, jumps name labels: here: null, ifnull here, ret.
	body string
	// The handlers are parted by commas: from, to, at, and a class unless it is for all. The places are labels, numbers, or end.
	handlers string
}

// static is a static method ()V with a stack of two and one local, as in the document's examples.
func static(body string) method { return method{flags: 1, stack: 2, locals: 1, body: body} }

// pool are the constants of a file that grows.
type pool struct{ l []api.Const }

// add is the number of a constant, be it there or new.
func (p *pool) add(c api.Const) int {
	i := slices.Index(p.l, c)
	if i < 0 {
		i = len(p.l)
		p.l = append(p.l, c)
	}
	return i + 1
}

func (p *pool) text(s string) int  { return p.add(api.Const{Tag: api.PoolName, Text: s}) }
func (p *pool) class(s string) int { return p.add(api.Const{Tag: api.PoolClass, A: p.text(s)}) }
func (p *pool) number(s string) int {
	return p.add(api.Const{Tag: api.PoolInt, N: number(s)})
}

func number(s string) int {
	n, err := strconv.Atoi(s)
	if err != nil {
		panic(s)
	}
	return n
}

// link is the number of the constant that an op leads to: of a class, a type, a text, a number, or of a member of the form A.m ()V.
func (p *pool) link(op int, s string) int {
	switch op {
	case api.Int:
		return p.number(s)
	case api.New:
		return p.class(s)
	case api.Text:
		return p.add(api.Const{Tag: api.PoolText, A: p.text(s)})
	case api.Array, api.Cast, api.Is:
		return p.add(api.Const{Tag: api.PoolType, A: p.text(s)})
	}
	class, rest, _ := strings.Cut(s, ".")
	name, desc, _ := strings.Cut(rest, " ")
	c := api.Const{Tag: api.PoolMethod, A: p.class(class), B: p.text(name), C: p.text(desc)}
	if op >= api.Get && op <= api.Sput {
		c.Tag = api.PoolField
	}
	return p.add(c)
}

// assembly is a code that grows: its instructions, where jumps are still labels, and where labels are.
type assembly struct {
	*pool
	l      []api.Instr
	jumps  [][]string
	places map[string]int
	size   int
}

func (a *assembly) add(s string) {
	for {
		label, rest, ok := strings.Cut(s, ": ")
		if !ok {
			break
		}
		a.places[label] = a.size
		s = rest
	}
	name, rest, _ := strings.Cut(s, " ")
	op, ok := code.Op(name)
	if !ok {
		panic(s)
	}
	x := api.Instr{Pc: a.size, Op: op}
	var jumps []string
	switch code.Form(op) {
	case '-':
		a.size++
	case 'b':
		x.N = number(rest)
		a.size += 2
	case 'n':
		x.N = a.link(op, rest)
		a.size += 3
	case 'j':
		jumps = []string{rest}
		a.size += 3
	case 's': // the default, and then keys and labels
		words := strings.Fields(rest)
		jumps = words[:1]
		for pair := range slices.Chunk(words[1:], 2) {
			x.Keys = append(x.Keys, a.number(pair[0]))
			jumps = append(jumps, pair[1])
		}
		a.size += 1 + 4*len(jumps)
	}
	a.l = append(a.l, x)
	a.jumps = append(a.jumps, jumps)
}

// place is where a label is; a number is a place by itself.
func (a *assembly) place(s string) int {
	if n, ok := a.places[s]; ok {
		return n
	}
	return number(s)
}

// assemble is the member of a method in short form.
func (p *pool) assemble(t testing.TB, m method) api.Member {
	t.Helper()
	if m.name == "" {
		m.name = "m"
	}
	if m.desc == "" {
		m.desc = "()V"
	}
	r := api.Member{Flags: m.flags, Name: p.text(m.name), Desc: p.text(m.desc), MaxStack: m.stack, MaxLocals: m.locals}
	if m.body == "" {
		return r
	}
	a := assembly{pool: p, places: map[string]int{}}
	for _, s := range strings.Split(m.body, ", ") {
		a.add(s)
	}
	for i, jumps := range a.jumps {
		for _, j := range jumps {
			a.l[i].To = append(a.l[i].To, a.place(j))
		}
	}
	a.places["end"] = a.size
	for _, s := range strings.FieldsFunc(m.handlers, func(r rune) bool { return r == ',' }) {
		words := strings.Fields(s)
		h := api.Handler{From: a.place(words[0]), To: a.place(words[1]), At: a.place(words[2])}
		if len(words) > 3 {
			h.Class = p.class(words[3])
		}
		r.Handlers = append(r.Handlers, h)
	}
	var e api.Errno
	if r.Code, e = code.Encode(a.l); e != api.OK {
		t.Fatal(m.body, e)
	}
	return r
}

// file is the file of a class without members.
func file(flags int, name, super string, ifaces ...string) api.File {
	var p pool
	f := api.File{Flags: flags, This: p.class(name), Super: p.class(super)}
	for _, i := range ifaces {
		f.Ifaces = append(f.Ifaces, p.class(i))
	}
	f.Pool = p.l
	return f
}

// fileOf is the file of the class B, which is below A, with methods.
func fileOf(t testing.TB, ms ...method) api.File {
	t.Helper()
	f := file(0, "B", "A")
	p := pool{f.Pool}
	for i, m := range ms {
		if m.name == "" {
			m.name = "m" + strconv.Itoa(i)
		}
		f.Methods = append(f.Methods, p.assemble(t, m))
	}
	f.Pool = p.l
	if e := classfile.Right(f); e != api.OK {
		t.Fatal(e)
	}
	return f
}

// sample is a table of B and other classes: A is above B and C, D below B, E below Throwable, F and G below E; I and J above it are interfaces.
func sample(t testing.TB) *hier.Table {
	t.Helper()
	h, e, at := hier.New([]api.File{
		file(0, "A", "Object", "I"), file(0, "B", "A"), file(0, "C", "A"), file(0, "D", "B", "J"),
		file(0, "E", "Throwable"), file(0, "F", "E"), file(0, "G", "E"), file(3, "I", "Object"), file(3, "J", "Object", "I"),
	})
	if e != api.OK {
		t.Fatal(e, at)
	}
	return h
}

func show(k api.Known) string {
	switch k.Kind {
	case api.KTop:
		return "top"
	case api.KInt:
		return "int"
	case api.KNull:
		return "null"
	case api.KNew:
		return "new" + strconv.Itoa(k.N)
	case api.KThis:
		return "this"
	}
	if k.T.Name == "" {
		k.T.Name = "int"
	}
	if k.Kind != api.KRef || k.T.Dims < 0 || k.T.Dims > 9 {
		return "wrong" + strconv.Itoa(k.Kind) + ":" + strconv.Itoa(k.T.Dims) + k.T.Name
	}
	return strings.Repeat("[", k.T.Dims) + k.T.Name
}

func showKnowns(l []api.Known) string {
	var s []string
	for _, k := range l {
		s = append(s, show(k))
	}
	return strings.Join(s, " ")
}

// showTyping are the states of a typing, parted by commas: of each the locals, a bar and the stack; ahead of one that is not reached stands a dash.
func showTyping(x verify.Typed) string {
	var l []string
	for i, s := range x.States {
		state := showKnowns(s.Locals) + "|" + showKnowns(s.Stack)
		if !x.Reached[i] {
			state = "-" + state
		}
		l = append(l, state)
	}
	return strings.Join(l, ", ")
}

// known is what show shows. Of wrong, wrongtype and wrongnumber the kind, the type, and the number may not be.
func known(s string) api.Known {
	switch s {
	case "top":
		return api.Known{}
	case "int":
		return api.Known{Kind: api.KInt}
	case "null":
		return api.Known{Kind: api.KNull}
	case "this":
		return api.Known{Kind: api.KThis}
	case "wrong":
		return api.Known{Kind: 9}
	case "wrongtype":
		return api.Known{Kind: api.KInt, T: api.Type{Name: "A"}}
	case "wrongnumber":
		return api.Known{Kind: api.KRef, T: api.Type{Name: "A"}, N: 1}
	}
	if rest, ok := strings.CutPrefix(s, "new"); ok {
		return api.Known{Kind: api.KNew, N: number(rest)}
	}
	name := strings.TrimLeft(s, "[")
	k := api.Known{Kind: api.KRef, T: api.Type{Dims: len(s) - len(name), Name: name}}
	if name == "int" {
		k.T.Name = ""
	}
	return k
}

func knowns(s string) []api.Known {
	var l []api.Known
	for _, w := range strings.Fields(s) {
		l = append(l, known(w))
	}
	return l
}

// typingFrom is the typing of a method that showTyping shows.
func typingFrom(t testing.TB, m api.Member, s string) verify.Typed {
	t.Helper()
	l, e := code.Decode(m.Code)
	if e != api.OK {
		t.Fatal(e)
	}
	x := verify.Typed{L: l}
	for _, state := range strings.Split(s, ", ") {
		state, dash := strings.CutPrefix(state, "-")
		locals, stack, ok := strings.Cut(state, "|")
		if !ok && state != "" {
			t.Fatal(s)
		}
		x.Reached = append(x.Reached, !dash)
		x.States = append(x.States, api.State{Locals: knowns(locals), Stack: knowns(stack)})
	}
	if len(x.States) != len(l) {
		t.Fatal("states:", len(x.States), "instructions:", len(l), s)
	}
	return x
}

var errorNames = map[api.Errno]string{
	api.ErrArg: "ErrArg", api.ErrState: "ErrState", api.ErrLocal: "ErrLocal", api.ErrStack: "ErrStack", api.ErrType: "ErrType",
	api.ErrPool: "ErrPool", api.ErrClass: "ErrClass", api.ErrKind: "ErrKind", api.ErrDesc: "ErrDesc", api.ErrInit: "ErrInit",
}

// fine is the answer for a typing that holds.
const fine = "-1"

// answer is the answer of Where as a text, with which that of Holds must agree: a place and an error.
func answer(t testing.TB, h *hier.Table, f api.File, i int, x verify.Typed) string {
	t.Helper()
	pc, e := Where(h, f, i, x)
	if Holds(h, f, i, x) != (e == api.OK) {
		t.Error("Holds and Where differ:", pc, e)
	}
	return answerOf(t, pc, e)
}

func answerOf(t testing.TB, pc int, e api.Errno) string {
	t.Helper()
	if e == api.OK {
		return strconv.Itoa(pc)
	}
	if errorNames[e] == "" {
		t.Error("no error of this layer:", e)
	}
	return strconv.Itoa(pc) + " " + errorNames[e]
}

// row is a method, a typing of it (nothing: that of verify.Method), and the answer of Where.
type row struct {
	m            method
	typing, want string
}

// wantRows holds the answers of Where and Holds, and those of the model.
func wantRows(t *testing.T, rows []row) {
	t.Helper()
	h := sample(t)
	for _, r := range rows {
		f := fileOf(t, r.m)
		x, e, pc := verify.Method(h, f, 0)
		if r.typing != "" {
			x = typingFrom(t, f.Methods[0], r.typing)
		} else if e != api.OK {
			t.Fatal(r.m.body, e, pc)
		}
		if got := answer(t, h, f, 0, x); got != r.want {
			t.Errorf("%s with %s: %s: %s; want %s", r.m.body, r.m.handlers, showTyping(x), got, r.want)
		}
		if got := modelAnswer(t, h, f, 0, x); got != r.want {
			t.Errorf("the model: %s with %s: %s: %s; want %s", r.m.body, r.m.handlers, showTyping(x), got, r.want)
		}
	}
}
