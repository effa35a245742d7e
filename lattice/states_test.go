package lattice

import (
	"math/rand"
	"reflect"
	"slices"
	"strings"
	"testing"

	"crucible/api"
	"crucible/hier"
)

// state is the state of a short form: its locals, a bar, its stack.
func state(s string) api.State {
	locals, stack, _ := strings.Cut(s, "|")
	return api.State{Locals: knowns(locals), Stack: knowns(stack)}
}

// equal holds two states against each other by their words alone.
func equal(a, b api.State) bool {
	eq := func(a, b []api.Known) bool { return len(a) == 0 && len(b) == 0 || reflect.DeepEqual(a, b) }
	return eq(a.Locals, b.Locals) && eq(a.Stack, b.Stack)
}

func TestT74JoinStates(t *testing.T) {
	h := sample(t)
	for _, c := range []struct{ a, b, want string }{
		{"|", "|", "|"},
		{"A int null|", "B int C|", "A int C|"},
		{"int A|", "null|", "top|"},
		{"int A this new3|B", "int|C", "int|A"},
		{"|B", "int A|null", "|B"},
		{"A|int new3 [B null", "B|null new3 [C null", "A|top new3 [A null"},
		{"new3 this top|new3", "new4 A int|this", "top top top|top"},
		{"nowhere A|nowhere", "nowhere nowhere|A", "nowhere top|top"},
	} {
		for _, p := range [][2]string{{c.a, c.b}, {c.b, c.a}} {
			s, e := JoinStates(h, state(p[0]), state(p[1]))
			if e != api.OK || !equal(s, state(c.want)) {
				t.Errorf("%q and %q: %v, %v; want %q", p[0], p[1], s, e, c.want)
			}
		}
	}
}

func TestT74JoinStatesWrong(t *testing.T) {
	h := sample(t)
	for _, c := range []struct{ a, b string }{{"|A", "|"}, {"A int|A", "A int|A A"}, {"|int int int", "A|int"}, {"A|", "|A"}} {
		for _, p := range [][2]string{{c.a, c.b}, {c.b, c.a}} {
			if s, e := JoinStates(h, state(p[0]), state(p[1])); e != api.ErrStack || !equal(s, api.State{}) {
				t.Errorf("%q and %q: %v, %v", p[0], p[1], s, e)
			}
		}
	}
	bad := wrongKnowns()
	good := slices.Repeat([]api.Known{known("int")}, len(bad)+1)
	for _, other := range [][]api.Known{good, append(slices.Clone(bad), known("int"))} {
		s, e := JoinStates(h, api.State{Locals: bad, Stack: bad}, api.State{Locals: other, Stack: other[1:]})
		tops := make([]api.Known, len(bad))
		if e != api.OK || !equal(s, api.State{Locals: tops, Stack: tops}) {
			t.Errorf("%+.90v, %v", s, e)
		}
	}
}

func TestT74BelowStates(t *testing.T) {
	h := sample(t)
	for _, c := range []struct {
		a, b string
		want bool
	}{
		{"|", "|", true},
		{"A int|null B", "A int|null B", true},
		{"B null|null B", "A I|[ Object", true},
		{"B null int|B", "A|A", true},
		{"B null int|B", "|A", true},
		{"A|B", "A A|A", false},
		{"|B", "top|A", false},
		{"A|B", "B|B", false},
		{"int A B|", "int A C|", false},
		{"int A B|", "int A|", true},
		{"int A|int B int", "int A|int C int", false},
		{"|A", "|", false}, {"|", "|A", false}, {"|A A", "|A", false}, {"|A", "|A A", false},
		{"|", "|top", false}, {"|top", "|", false},
		{"A|", "|A", false}, {"|A", "A|", false}, {"A|B", "B|A", false},
		{"this new3|new4", "top top|top", true},
		{"nowhere|null", "nowhere|nowhere", true},
		{"nowhere|", "Object|", false},
	} {
		if BelowStates(h, state(c.a), state(c.b)) != c.want {
			t.Errorf("%q below %q: want %v", c.a, c.b, c.want)
		}
	}
	for _, k := range wrongKnowns() {
		wrong, top := []api.Known{k}, []api.Known{known("top")}
		for _, p := range [][2][]api.Known{{wrong, wrong}, {wrong, top}, {top, wrong}} {
			if BelowStates(h, api.State{Locals: p[0]}, api.State{Locals: p[1]}) || BelowStates(h, api.State{Stack: p[0]}, api.State{Stack: p[1]}) {
				t.Errorf("%+.90v below %+.90v", p[0], p[1])
			}
		}
		if !BelowStates(h, api.State{Locals: append(top, k)}, api.State{Locals: top}) {
			t.Errorf("%+.90v behind the other's locals", k)
		}
	}
}

func TestT74Same(t *testing.T) {
	states := []api.State{{}, {Locals: wrongKnowns()}, {Stack: wrongKnowns()}}
	for _, s := range strings.Split("int|,|int,int int|,int int|int,int|int int,int null|,null int|,|int null,A|B,B|A,A B|,|A B,top|,|top,top top|top,A|[B,A|[[B,A|C,new3|,new4|,this|,null|", ",") {
		states = append(states, state(s))
	}
	for i, a := range states {
		for j, b := range states {
			if Same(a, b) != (i == j) {
				t.Errorf("%+.90v and %+.90v", a, b)
			}
		}
	}
	for _, changed := range []api.Known{{Kind: 4, T: typ("[A"), N: 1}, {Kind: 3, T: typ("[[A"), N: 1}, {Kind: 3, T: typ("[B"), N: 1}, {Kind: 3, T: typ("[A"), N: 2}} {
		a := []api.Known{known("int"), {Kind: 3, T: typ("[A"), N: 1}}
		b := []api.Known{known("int"), changed}
		if Same(api.State{Locals: a}, api.State{Locals: b}) || Same(api.State{Stack: b}, api.State{Stack: a}) {
			t.Errorf("%v and %v", a, b)
		}
	}
	if !Same(api.State{Locals: []api.Known{}}, api.State{Stack: []api.Known{}}) {
		t.Error("nil and empty")
	}
}

func TestT74Clone(t *testing.T) {
	for _, s := range []api.State{{}, state("int|"), state("|A"), state("int A|new3 this [[B"), {Locals: wrongKnowns(), Stack: wrongKnowns()[3:]}} {
		kept := api.State{Locals: append([]api.Known{}, s.Locals...), Stack: append([]api.Known{}, s.Stack...)}
		c := Clone(s)
		if !equal(c, kept) || !Same(c, s) || !equal(s, kept) {
			t.Fatalf("%+.90v: %+.90v", s, c)
		}
		spoil(c)
		if !equal(s, kept) {
			t.Errorf("%+.90v has changed", kept)
		}
		c = Clone(s)
		spoil(s)
		if !equal(c, kept) {
			t.Errorf("the copy of %+.90v has changed", kept)
		}
	}
}

// spoil overwrites all that the lists of a state have room for.
func spoil(s api.State) {
	for _, l := range [][]api.Known{s.Locals, s.Stack} {
		l = l[:cap(l)]
		for i := range l {
			l[i] = api.Known{Kind: 77, N: i}
		}
	}
}

// An answer shares nothing with the arguments, nor its two lists with each other; what is behind the end of a list stays.
func TestP3Apart(t *testing.T) {
	h := sample(t)
	room := knowns("B null C int this new3 B int")
	a := api.State{Locals: room[0:2], Stack: room[3:5]}
	b := api.State{Locals: room[1:4], Stack: room[5:7]}
	before := slices.Clone(room)
	s, e := JoinStates(h, a, b)
	want := state("B C|top top")
	if e != api.OK || !equal(s, want) {
		t.Fatal(s, e)
	}
	spoil(api.State{Locals: s.Locals})
	if !equal(s, api.State{Locals: s.Locals, Stack: want.Stack}) {
		t.Error("the stack is the locals'")
	}
	spoil(s)
	c := Clone(a)
	spoil(api.State{Stack: c.Stack})
	if !equal(c, api.State{Locals: before[0:2], Stack: c.Stack}) {
		t.Error("the locals are the stack's")
	}
	BelowStates(h, a, b)
	Same(a, b)
	empty := api.State{Locals: room[:0], Stack: room[2:2]}
	spoil(Clone(empty))
	s, _ = JoinStates(h, empty, empty)
	spoil(s)
	if !slices.Equal(room, before) {
		t.Error(room)
	}
	s, _ = JoinStates(h, a, a)
	clear(room)
	if !equal(s, api.State{Locals: before[0:2], Stack: before[3:5]}) {
		t.Error("the join has changed", s)
	}
}

func TestLongStates(t *testing.T) {
	h := sample(t)
	a := api.State{Locals: slices.Repeat(knowns("B null"), 50000), Stack: slices.Repeat(knowns("C"), 70000)}
	b := api.State{Locals: slices.Repeat(knowns("A I"), 40000), Stack: slices.Repeat(knowns("B"), 70000)}
	s, e := JoinStates(h, a, b)
	if e != api.OK || !Same(s, api.State{Locals: b.Locals, Stack: slices.Repeat(knowns("A"), 70000)}) || !Same(s, Clone(s)) {
		t.Error(len(s.Locals), len(s.Stack), e)
	}
	if !BelowStates(h, a, s) || !BelowStates(h, b, s) || BelowStates(h, s, a) || BelowStates(h, s, b) {
		t.Error("BelowStates")
	}
	s.Stack[69999] = known("int")
	if BelowStates(h, a, s) || Same(a, s) {
		t.Error("the last one")
	}
}

// checkStates holds what follows of three states of valid knowns.
func checkStates(t *testing.T, h *hier.Table, a, b, c api.State) {
	t.Helper()
	ab, e := JoinStates(h, a, b)
	ba, other := JoinStates(h, b, a)
	if (e == api.OK) != (len(a.Stack) == len(b.Stack)) || e != other || !equal(ab, ba) {
		t.Fatal("JoinStates", a, b, ab, e, ba, other)
	}
	if e == api.OK && (!BelowStates(h, a, ab) || !BelowStates(h, b, ab)) {
		t.Fatal("not below the join", a, b, ab)
	}
	if aa, e := JoinStates(h, a, a); e != api.OK || !Same(aa, a) || !BelowStates(h, a, a) {
		t.Fatal("not its own join", a, aa)
	}
	if BelowStates(h, a, b) && BelowStates(h, b, c) && !BelowStates(h, a, c) {
		t.Fatal("BelowStates is not transitive", a, b, c)
	}
	if Same(a, b) != equal(a, b) {
		t.Fatal("Same", a, b)
	}
	if len(a.Stack) != len(b.Stack) || len(b.Stack) != len(c.Stack) {
		return
	}
	bc, _ := JoinStates(h, b, c)
	left, _ := JoinStates(h, ab, c)
	right, _ := JoinStates(h, a, bc)
	if !equal(left, right) {
		t.Fatal("JoinStates is not associative", a, b, c)
	}
}

// statesOf makes three states of bytes: their sizes, then their elements.
func statesOf(l []api.Known, b []byte) [3]api.State {
	next := func() int {
		if len(b) == 0 {
			return 0
		}
		n := int(b[0])
		b = b[1:]
		return n
	}
	list := func(n int) []api.Known {
		var s []api.Known
		for range n {
			s = append(s, l[next()%len(l)])
		}
		return s
	}
	var s [3]api.State
	for i := range s {
		n := next()
		s[i] = api.State{Locals: list(n % 4), Stack: list(n / 4 % 3)}
	}
	return s
}

func TestT75States(t *testing.T) {
	h := sample(t)
	few := knowns("top int null A B C Object I")
	l := all(h, 2)
	r := rand.New(rand.NewSource(7))
	for range 20000 {
		b := make([]byte, 24)
		r.Read(b)
		s := statesOf(few, b)
		checkStates(t, h, s[0], s[1], s[2])
		s = statesOf(l, b)
		checkStates(t, h, s[0], s[1], s[2])
	}
}

func FuzzStates(f *testing.F) {
	f.Add([]byte("\x05\x01\x02\x05\x03\x04\x05\x05\x06"))
	h := sample(f)
	l := all(h, 4)
	f.Fuzz(func(t *testing.T, b []byte) {
		s := statesOf(l, b)
		checkStates(t, h, s[0], s[1], s[2])
	})
}
