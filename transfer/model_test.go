package transfer

import (
	"math/rand"
	"slices"
	"strings"
	"testing"

	"crucible/api"
	"crucible/classfile"
	"crucible/code"
	"crucible/desc"
	"crucible/hier"
	"crucible/lattice"
)

// fixed are the rules of the ops that always do the same: what is popped, the first one first, and behind the bar what is pushed. A ? is any reference.
var fixed = map[string]string{
	"nop": "|", "goto": "|", "yield": "|", "null": "|null", "neg": "int|int", "ifnull": "?|", "ifsome": "?|", "same": "? ?|", "cmpeq": "int int|", "cmplt": "int int|",
	"ifeq": "int|", "ifne": "int|", "iflt": "int|", "ifge": "int|", "enter": "?|", "exit": "?|", "join": "int|", "print": "int|", "prints": "String|",
	"weak": "?|Weak", "deref": "Weak|Object", "slen": "String|int", "schar": "int String|int", "scat": "String String|String", "intern": "String|String",
	"loader": "int|Loader", "make": "String Loader|Object", "add": "int int|int", "sub": "int int|int", "mul": "int int|int", "div": "int int|int", "rem": "int int|int",
	"and": "int int|int", "or": "int int|int", "xor": "int int|int", "shl": "int int|int", "shr": "int int|int", "pop": "*|",
}

// rule is the rule of an instruction in a state as such a text, or the error ahead of all steps that it names; void: it comes to its end behind what it pops.
func rule(m Method, x api.Instr, s api.State) (text string, early api.Errno) {
	name, _ := code.Name(x.Op)
	if text, ok := fixed[name]; ok {
		return text, api.OK
	}
	var k api.Const
	if x.N > 0 && x.N <= len(m.F.Pool) {
		k = m.F.Pool[x.N-1]
	}
	switch name {
	case "int", "text":
		if k.Tag != map[string]int{"int": 2, "text": 3}[name] {
			return "", api.ErrPool
		}
		return map[string]string{"int": "|int", "text": "|String"}[name], api.OK
	case "array", "cast", "is":
		if k.Tag != 7 {
			return "", api.ErrPool
		}
		t, _ := desc.Field(m.F.Pool[k.A-1].Text)
		if _, ok := m.H.Find(t.Name); !ok && t.Name != "" {
			return "", api.ErrClass
		}
		of := show(lattice.Of(t))
		switch {
		case name == "array" && t.Dims == 4:
			return "int|ErrDesc", api.OK
		case name == "array":
			return "int|[" + strings.TrimPrefix(of, "int"), api.OK
		case of == "int":
			return "", api.ErrType
		case name == "cast":
			return "?|" + of, api.OK
		}
		return "?|int", api.OK
	case "get", "put", "sget", "sput":
		if k.Tag != 5 {
			return "", api.ErrPool
		}
		class, _ := classfile.ClassName(m.F, k.A)
		if _, ok := m.H.Find(class); !ok {
			return "", api.ErrClass
		}
		t, _ := desc.Field(m.F.Pool[k.C-1].Text)
		of := show(lattice.Of(t))
		return map[string]string{"get": class + "|" + of, "put": of + " " + class + "|", "sget": "|" + of, "sput": of + "|"}[name], api.OK
	case "virt", "iface", "stat", "spawn", "spec":
		return callRule(m, name, k)
	case "throw":
		return "Throwable|none", api.OK
	case "ret", "vret":
		mname, _ := classfile.Name(m.F, m.M.Name)
		mdesc, _ := classfile.Name(m.F, m.M.Desc)
		void := strings.HasSuffix(mdesc, "V")
		if void != (name == "ret") {
			return "", api.ErrType
		}
		if !void {
			sig, _ := desc.Method(mdesc)
			return show(lattice.Of(sig.Ret)) + "|none", api.OK
		}
		if mname == "<init>" && (len(s.Locals) == 0 || s.Locals[0].Kind != 2 && s.Locals[0].Kind != 3) {
			return "", api.ErrInit
		}
		return "|none", api.OK
	}
	return "", api.ErrArg
}

// callRule is that of a call. The objects of a constructor are left to the caller: init.
func callRule(m Method, name string, k api.Const) (string, api.Errno) {
	if k.Tag != 6 {
		return "", api.ErrPool
	}
	cname, _ := classfile.ClassName(m.F, k.A)
	class, ok := m.H.Find(cname)
	if !ok {
		return "", api.ErrClass
	}
	called := m.F.Pool[k.B-1].Text
	if called == "<clinit>" || called == "<init>" && name != "spec" {
		return "", api.ErrInit
	}
	sig, _ := desc.Method(m.F.Pool[k.C-1].Text)
	if name == "spawn" && !sig.Void {
		return "", api.ErrType
	}
	if name == "iface" && !class.Iface || (name == "virt" || name == "spec") && class.Iface {
		return "", api.ErrKind
	}
	var pops []string
	for _, a := range slices.Backward(sig.Args) {
		pops = append(pops, show(lattice.Of(a)))
	}
	switch {
	case name == "virt" || name == "iface":
		pops = append(pops, cname)
	case called == "<init>":
		pops = append(pops, "init:"+cname)
	case name == "spec" && !slices.Contains(m.H.Chain("B"), cname):
		pops = append(pops, "ErrKind")
	case name == "spec":
		pops = append(pops, "B")
	}
	push := ""
	if name == "spawn" {
		push = "int"
	} else if !sig.Void {
		push = show(lattice.Of(sig.Ret))
	}
	return strings.Join(pops, " ") + "|" + push, api.OK
}

// play plays a rule's text.
func play(m Method, text string, s api.State) (api.State, bool, api.Errno) {
	s = lattice.Clone(s)
	pops, pushes, _ := strings.Cut(text, "|")
	for _, p := range strings.Fields(pops) {
		if p == "ErrKind" {
			return api.State{}, false, api.ErrKind
		}
		if len(s.Stack) == 0 {
			return api.State{}, false, api.ErrStack
		}
		k := s.Stack[len(s.Stack)-1]
		s.Stack = s.Stack[:len(s.Stack)-1]
		if class, ok := strings.CutPrefix(p, "init:"); ok {
			if !playInit(m, k, class, s) {
				return api.State{}, false, api.ErrInit
			}
			continue
		}
		right := p == "*" || p == "?" && (k.Kind == 2 || k.Kind == 3) || p == "int" && k.Kind == 1
		if strings.Trim(p, "*?") != "" && p != "int" {
			right = lattice.Below(m.H, k, known(p))
		}
		if !right {
			return api.State{}, false, api.ErrType
		}
	}
	switch pushes {
	case "none":
		return api.State{}, false, api.OK
	case "ErrDesc":
		return api.State{}, false, api.ErrDesc
	}
	for _, p := range strings.Fields(pushes) {
		if len(s.Stack) == m.M.MaxStack {
			return api.State{}, false, api.ErrStack
		}
		s.Stack = append(s.Stack, known(p))
	}
	return s, true, api.OK
}

func playInit(m Method, k api.Known, class string, s api.State) bool {
	ref := class
	switch k.Kind {
	case 4:
		right := slices.ContainsFunc(m.L, func(x api.Instr) bool {
			name, ok := classfile.ClassName(m.F, x.N)
			return x.Pc == k.N && x.Op == api.New && ok && name == class
		})
		if !right {
			return false
		}
	case 5:
		if class != "A" && class != "B" {
			return false
		}
		ref = "B"
	default:
		return false
	}
	for _, l := range [][]api.Known{s.Locals, s.Stack} {
		for i := range l {
			if l[i] == k {
				l[i] = known(ref)
			}
		}
	}
	return true
}

// model is what Step is to answer.
func model(m Method, x api.Instr, s api.State) (api.State, bool, api.Errno) {
	n := len(s.Stack)
	top := func(i int) api.Known { return s.Stack[n-i] }
	end := func(e api.Errno) (api.State, bool, api.Errno) { return api.State{}, false, e }
	switch name, _ := code.Name(x.Op); name {
	case "load":
		if x.N < 0 || x.N >= len(s.Locals) {
			return end(api.ErrLocal)
		}
		if s.Locals[x.N].Kind == 0 {
			return end(api.ErrType)
		}
		return play(m, "|"+show(s.Locals[x.N]), s)
	case "store":
		if x.N < 0 || x.N >= len(s.Locals) || x.N == 0 && m.F.Pool[m.M.Name-1].Text == "<init>" {
			return end(api.ErrLocal)
		}
		r, ok, e := play(m, "*|", s)
		if ok {
			r.Locals[x.N] = top(1)
		}
		return r, ok, e
	case "dup":
		if n == 0 {
			return end(api.ErrStack)
		}
		return play(m, "*|"+show(top(1))+" "+show(top(1)), s)
	case "swap":
		if n < 2 {
			return end(api.ErrStack)
		}
		return play(m, "* *|"+show(top(1))+" "+show(top(2)), s)
	case "switch":
		for i, key := range x.Keys {
			if key < 1 || key > len(m.F.Pool) || m.F.Pool[key-1].Tag != 2 {
				return end(api.ErrPool)
			}
			if i > 0 && m.F.Pool[x.Keys[i-1]-1].N >= m.F.Pool[key-1].N {
				return end(api.ErrArg)
			}
		}
		return play(m, "int|", s)
	case "new":
		name, ok := classfile.ClassName(m.F, x.N)
		if !ok {
			return end(api.ErrPool)
		}
		c, ok := m.H.Find(name)
		made := known("new" + show(api.Known{Kind: 4, N: x.Pc})[3:])
		switch {
		case !ok:
			return end(api.ErrClass)
		case c.Abstract || name == "String" || name == "Weak" || name == "Loader":
			return end(api.ErrKind)
		case slices.Contains(s.Stack, made) || slices.Contains(s.Stack, api.Known{}):
			return end(api.ErrInit)
		}
		r, ok, e := play(m, "|"+show(made), s)
		for i := range r.Locals {
			if r.Locals[i] == made {
				r.Locals[i] = api.Known{}
			}
		}
		return r, ok, e
	case "len", "aget", "aput":
		return modelArray(m, name, s)
	}
	text, early := rule(m, x, s)
	if early != api.OK {
		return end(early)
	}
	return play(m, text, s)
}

func modelArray(m Method, name string, s api.State) (api.State, bool, api.Errno) {
	pops := map[string]string{"len": "?", "aget": "int ?", "aput": "* int ?"}[name]
	r, ok, e := play(m, pops+"|", s)
	if !ok {
		return r, ok, e
	}
	array := s.Stack[len(r.Stack)]
	switch {
	case array.Kind == 2 && name != "len":
		return api.State{}, false, api.OK
	case array.Kind == 3 && array.T.Dims == 0:
		return api.State{}, false, api.ErrType
	case name == "len":
		return play(m, "?|int", s)
	}
	element := strings.TrimPrefix(show(array), "[")
	if element == "" {
		element = "int"
	}
	if name == "aget" {
		return play(m, "int ?|"+element, s)
	}
	value := s.Stack[len(s.Stack)-1]
	if element == "int" && value.Kind != 1 || element != "int" && value.Kind != 2 && value.Kind != 3 {
		return api.State{}, false, api.ErrType
	}
	return r, true, api.OK
}

// shortForms are the knowns of random states, the likelier ones often.
var shortForms = strings.Fields("top int int int int null null this new0 new3 new9 new15 new18 A B C D I J E Q Object String Weak Loader Throwable [ [[ [A [B [I [[[[ [[[[D nowhere [nowhere")

// links are those of random instructions.
var links = strings.Fields("2:5 2:-3 2:9 3:m 4:A 4:B 4:C 4:I 4:Q 4:Object 4:String 4:nowhere 7:I 7:[I 7:LA; 7:[LB; 7:[[[[I 7:Lnowhere; 1:m #0 #-1 #9999")

func allLinks(b *bench) []int {
	var l []int
	for _, s := range links {
		tag := api.PoolName
		if s[1] == ':' {
			tag, s = int(s[0]-'0'), s[2:]
		}
		l = append(l, b.link(tag, s))
	}
	for _, class := range []string{"A", "B", "C", "D", "I", "Object", "nowhere"} {
		for _, d := range []string{"I", "LA;", "[LB;", "Lnowhere;"} {
			l = append(l, b.link(api.PoolField, class+".x "+d))
		}
		for _, d := range []string{"()V", "(I)V", "(ILA;)I", "([I)LB;", "(LI;)V"} {
			l = append(l, b.link(api.PoolMethod, class+".m "+d), b.link(api.PoolMethod, class+".<init> "+d))
		}
		l = append(l, b.link(api.PoolMethod, class+".<clinit> ()V"))
	}
	return l
}

// methods are methods of all sorts, and the links of their files.
func methods(t testing.TB) ([]Method, []int) {
	var l []Method
	var all []int
	for i, m := range []struct {
		flags      int
		name, desc string
	}{{1, "f", "()V"}, {0, "f", "()I"}, {0, "f", "()LA;"}, {0, "<init>", "(I)V"}, {1, "<clinit>", "()V"}} {
		b := newBench(t, m.flags, m.name, m.desc)
		b.stack = 1 + i
		all = allLinks(b) // the first in each pool, so the same ones in all
		l = append(l, b.method(t))
	}
	return l, all
}

// chance is a source of numbers below a bound.
type chance func(n int) int

func (c chance) instr(f api.File, all []int) api.Instr {
	x := api.Instr{Op: c(api.OpLast+3) - 1, Pc: []int{0, 3, 9, 15, 21}[c(5)]}
	for range 10 { // most often one to a constant with the right tag
		if x.N = all[c(len(all))]; x.N > 0 && x.N <= len(f.Pool) && f.Pool[x.N-1].Tag == tagOf(x.Op) {
			break
		}
	}
	switch x.Op {
	case api.Load, api.Store:
		x.N = c(6) - 1
	case api.Switch:
		for range c(4) {
			x.Keys = append(x.Keys, all[c(4)])
		}
	}
	return x
}

func (c chance) knowns(n int) []api.Known {
	var l []api.Known
	for range n {
		l = append(l, known(shortForms[c(len(shortForms))]))
	}
	return l
}

// aptState is a state whose stack is often right for an instruction: it has what a rule pops.
func (c chance) aptState(m Method, x api.Instr) api.State {
	s := api.State{Locals: c.knowns(c(5)), Stack: c.knowns(c(m.M.MaxStack + 1))}
	if c(4) == 0 {
		return s
	}
	text, e := rule(m, x, s)
	pops, _, _ := strings.Cut(text, "|")
	if e != api.OK || x.Op == api.Aput {
		return s
	}
	for i, p := range strings.Fields(pops) {
		at := len(s.Stack) - 1 - i
		if at < 0 {
			break
		}
		switch {
		case p == "?":
			s.Stack[at] = known([]string{"A", "null", "[B", "nowhere"}[c(4)])
		case strings.HasPrefix(p, "init:"):
			s.Stack[at] = known([]string{"new0", "new3", "new9", "this"}[c(4)])
			if c(2) == 0 && len(s.Locals) > 0 {
				s.Locals[0] = s.Stack[at]
			}
		case p != "*" && p != "ErrKind":
			s.Stack[at] = known(p)
		}
	}
	return s
}

// lower is a known that is below another one.
func (c chance) lower(h *hier.Table, k api.Known) api.Known {
	for range 3 {
		if low := known(shortForms[c(len(shortForms))]); lattice.Below(h, low, k) {
			return low
		}
	}
	return k
}

func sameAnswer(a, b api.State, fa, fb bool, ea, eb api.Errno) bool {
	return lattice.Same(a, b) && fa == fb && ea == eb
}

// checkStep holds an answer of Step against the model, and against what follows of the rules. It tells which answer it was.
func checkStep(t *testing.T, c chance, ms []Method, all []int) api.Errno {
	t.Helper()
	m := ms[c(len(ms))]
	x := c.instr(m.F, all)
	s := c.aptState(m, x)
	before := showState(s)
	got, follows, e := Step(m, x, s)
	want, wantFollows, wantE := model(m, x, s)
	if !sameAnswer(got, want, follows, wantFollows, e, wantE) {
		name, _ := code.Name(x.Op)
		t.Fatalf("%s %v with %s: %s %v %v; want %s %v %v", name, x, before, showState(got), follows, e, showState(want), wantFollows, wantE)
	}
	answer(t, got, follows, e)
	if showState(s) != before || len(got.Stack) > m.M.MaxStack || follows && len(got.Locals) != len(s.Locals) {
		t.Fatal(x, before, showState(s), showState(got))
	}
	if e != api.OK {
		return e
	}
	low := lattice.Clone(s)
	for _, l := range [][]api.Known{low.Locals, low.Stack} {
		for i := range l {
			l[i] = c.lower(m.H, l[i])
		}
	}
	if !lattice.BelowStates(m.H, low, s) {
		t.Fatal("not below", showState(low), before)
	}
	lows, lowFollows, e := Step(m, x, low)
	if e != api.OK || lowFollows && (!follows || !lattice.BelowStates(m.H, lows, got)) {
		t.Fatal(x, before, showState(got), follows, showState(low), showState(lows), lowFollows, e)
	}
	return api.OK
}

func TestX4(t *testing.T) {
	r := rand.New(rand.NewSource(9))
	ms, all := methods(t)
	count := map[api.Errno]int{}
	for range 400000 {
		count[checkStep(t, r.Intn, ms, all)]++
	}
	for e, name := range errorNames {
		if count[e] < 100 {
			t.Error("too few", name, count)
		}
	}
	if count[api.OK] < 100000 {
		t.Error("too few without an error", count)
	}
}

func FuzzStep(f *testing.F) {
	ms, all := methods(f)
	f.Add([]byte("\x00\x00\x00\x00"))
	f.Fuzz(func(t *testing.T, b []byte) {
		c := func(n int) int {
			if len(b) == 0 {
				return 0
			}
			i := int(b[0]) % n
			b = b[1:]
			return i
		}
		for range 20 {
			checkStep(t, c, ms, all)
		}
	})
}
