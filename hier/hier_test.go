package hier

import (
	"math"
	"reflect"
	"slices"
	"strings"
	"testing"

	"crucible/api"
)

// spec is a class as a test tells it; one without a super has the link 0.
type spec struct {
	flags       int
	name, super string
	ifaces      []string
}

func plain(name, super string, ifaces ...string) spec {
	return spec{name: name, super: super, ifaces: ifaces}
}

func iface(name string, ifaces ...string) spec {
	return spec{flags: 3, name: name, super: "Object", ifaces: ifaces}
}

// file is the file of a class. A name has as many constants as it is used.
func (s spec) file() api.File {
	f := api.File{Flags: s.flags}
	link := func(name string) int {
		f.Pool = append(f.Pool, api.Const{Tag: api.PoolName, Text: name}, api.Const{Tag: api.PoolClass, A: len(f.Pool) + 1})
		return len(f.Pool)
	}
	f.This = link(s.name)
	if s.super != "" {
		f.Super = link(s.super)
	}
	for _, i := range s.ifaces {
		f.Ifaces = append(f.Ifaces, link(i))
	}
	return f
}

func filesOf(l []spec) []api.File {
	files := []api.File{}
	for _, s := range l {
		files = append(files, s.file())
	}
	return files
}

// open opens a table from another one, or makes one where that is nil.
func open(t *Table, l ...spec) (*Table, api.Errno, int) {
	if t == nil {
		return New(filesOf(l))
	}
	return t.Open(filesOf(l))
}

func mustOpen(t testing.TB, up *Table, l ...spec) *Table {
	t.Helper()
	n, e, at := open(up, l...)
	if n == nil || e != api.OK || at != 0 {
		t.Fatalf("%v: %v, %d, %d", l, n, e, at)
	}
	return n
}

func wantError(t *testing.T, up *Table, want api.Errno, wantAt int, l ...spec) {
	t.Helper()
	if n, e, at := open(up, l...); n != nil || e != want || at != wantAt {
		t.Errorf("%v: %v, %d, %d; want %d, %d", l, n, e, at, want, wantAt)
	}
}

func wantFind(t *testing.T, x *Table, want Class) {
	t.Helper()
	c, ok := x.Find(want.Name)
	if len(c.Ifaces) == 0 && len(want.Ifaces) == 0 {
		c.Ifaces, want.Ifaces = nil, nil
	}
	if !ok || !reflect.DeepEqual(c, want) {
		t.Errorf("Find: %+v, %v; want %+v", c, ok, want)
	}
}

func wantChain(t *testing.T, x *Table, name string, want ...string) {
	t.Helper()
	if l := x.Chain(name); !slices.Equal(l, want) {
		t.Errorf("Chain(%q): %q; want %q", name, l, want)
	}
}

func wantNames(t *testing.T, x *Table, want ...string) {
	t.Helper()
	if l := x.Names(); !slices.Equal(l, append(builtinNames(), want...)) {
		t.Errorf("Names: %q; want the built-in ones and %q", l, want)
	}
}

func builtinNames() []string {
	return strings.Fields("Object String Weak Loader Throwable Null Arith Bounds Size Cast Store Monitor NoClass Deep")
}

// typ is the type of a short form: so many brackets, and a name; no name is int.
func typ(s string) api.Type {
	name := strings.TrimLeft(s, "[")
	return api.Type{Dims: len(s) - len(name), Name: name}
}

// wrongNames are names of no class of a test.
var wrongNames = []string{"", "X", "object", "Object ", "Objec", "a b", "[A", "A;", "LA;", "I;", "\xff", "\x00", "é", strings.Repeat("A", 64), strings.Repeat("A", 65), strings.Repeat("A", 100000)}

// wrongTypes are types that are not valid, or whose class is not there, each with the name of a class if there is one.
func wrongTypes(name string) []api.Type {
	var l []api.Type
	for _, dims := range []int{math.MinInt, math.MinInt + 1, -1 << 32, -5, -1, 5, 6, 1 << 31, 1 << 32, 1<<32 + 1, math.MaxInt - 1, math.MaxInt} {
		l = append(l, api.Type{Dims: dims, Name: name}, api.Type{Dims: dims})
	}
	for _, s := range wrongNames[1:] {
		for dims := range 5 {
			l = append(l, api.Type{Dims: dims, Name: s})
		}
	}
	return l
}

func TestH1Builtin(t *testing.T) {
	x := mustOpen(t, nil)
	wantNames(t, x)
	wantFind(t, x, Class{Name: "Object", At: -1})
	for _, name := range []string{"String", "Weak", "Loader", "Throwable"} {
		wantFind(t, x, Class{Name: name, Super: "Object", At: -1})
	}
	for _, name := range builtinNames()[5:] {
		wantFind(t, x, Class{Name: name, Super: "Throwable", At: -1})
		wantChain(t, x, name, name, "Throwable", "Object")
	}
	y, e, at := New([]api.File{})
	if e != api.OK || at != 0 || !slices.Equal(y.Names(), x.Names()) {
		t.Error(e, at)
	}
}

// Files may name classes of later ones, built-in ones, and an interface twice.
func TestH1Right(t *testing.T) {
	x := mustOpen(t, nil, plain("C", "B", "J", "I", "J"), spec{flags: 2, name: "B", super: "A"}, iface("J", "I"), plain("A", "Object"), iface("I"), plain("E", "Deep", "I"), plain("é∀", "Throwable"))
	wantNames(t, x, "C", "B", "J", "A", "I", "E", "é∀")
	wantFind(t, x, Class{Name: "C", Super: "B", Ifaces: []string{"J", "I", "J"}, Own: true})
	wantFind(t, x, Class{Name: "B", Super: "A", Abstract: true, Own: true, At: 1})
	wantFind(t, x, Class{Name: "J", Super: "Object", Ifaces: []string{"I"}, Iface: true, Abstract: true, Own: true, At: 2})
	wantFind(t, x, Class{Name: "A", Super: "Object", Own: true, At: 3})
	wantFind(t, x, Class{Name: "é∀", Super: "Throwable", Own: true, At: 6})
	for _, super := range builtinNames() {
		if super == "String" || super == "Weak" || super == "Loader" {
			wantError(t, nil, api.ErrKind, 0, plain("A", super))
		} else {
			wantChain(t, mustOpen(t, nil, plain("A", super)), "A", append([]string{"A"}, x.Chain(super)...)...)
		}
	}
}

func lots(n int) []spec {
	var l []spec
	for i := range n {
		l = append(l, plain("C"+strings.Repeat("x", i/8)+string(rune('0'+i%8)), "Object"))
	}
	return l
}

func TestH1Many(t *testing.T) {
	x := mustOpen(t, nil, lots(64)...)
	if n := len(x.Names()); n != 14+64 {
		t.Error(n)
	}
	wantError(t, nil, api.ErrMany, 0, lots(65)...)
	// Whatever else is wrong with them.
	wantError(t, nil, api.ErrMany, 0, slices.Repeat([]spec{{flags: 1, name: "A"}}, 65)...)
	wantError(t, x, api.ErrMany, 0, lots(65)...)
	wantError(t, x, api.ErrTwice, 0, lots(64)...)
	mustOpen(t, x, plain("A", "C0"))
}

func TestH1FileErrors(t *testing.T) {
	a, twice := plain("A", "Object"), plain("A", "X")
	wantError(t, nil, api.ErrFlags, 0, spec{flags: 1, name: "A", super: "Object"})
	wantError(t, nil, api.ErrFlags, 1, a, spec{flags: 4, name: "B", super: "X"})
	wantError(t, nil, api.ErrName, 1, a, plain("B;", "Object"))
	wantError(t, nil, api.ErrName, 0, plain("A", "a.b"))
	wantError(t, nil, api.ErrForm, 0, plain("A\xff", "Object"))
	wantError(t, nil, api.ErrMany, 1, a, plain("B", "Object", slices.Repeat([]string{"I"}, 17)...))
	wantError(t, nil, api.ErrFlags, 1, a, spec{flags: 1, name: "A", super: "Object"})
	// An earlier file's error is the first one, and all files' ErrTwice are ahead of ErrClass.
	wantError(t, nil, api.ErrFlags, 1, a, spec{flags: 1, name: "B"}, a)
	wantError(t, nil, api.ErrTwice, 1, a, a, spec{flags: 1, name: "B"})
	wantError(t, nil, api.ErrTwice, 2, plain("B", "X"), twice, twice)
	wantError(t, nil, api.ErrTwice, 3, plain("B", "B"), plain("C", "Weak"), a, a)
	for _, name := range builtinNames() {
		wantError(t, nil, api.ErrTwice, 1, a, plain(name, "Object"))
		wantError(t, mustOpen(t, nil, a), api.ErrTwice, 1, plain("B", "A"), plain(name, "Object"))
	}
	for i, want := range []api.Errno{api.ErrPool, api.ErrPool, api.ErrLong} {
		f := a.file()
		switch i {
		case 0:
			f.This = 1
		case 1:
			f.Super = 9
		case 2:
			f.Pool = append(f.Pool, api.Const{Tag: api.PoolName, Text: strings.Repeat("a", 2001)})
		}
		if x, e, at := New([]api.File{plain("B", "Object").file(), f, f}); x != nil || e != want || at != 1 {
			t.Error(i, x, e, at)
		}
	}
	if x, e, at := New([]api.File{{}}); x != nil || e != api.ErrPool || at != 0 {
		t.Error(x, e, at)
	}
}

func TestH1LinkErrors(t *testing.T) {
	a, i := plain("A", "Object"), iface("I")
	wantError(t, nil, api.ErrClass, 0, plain("A", ""))
	wantError(t, nil, api.ErrClass, 1, i, spec{flags: 3, name: "J"})
	wantError(t, nil, api.ErrClass, 0, plain("A", "X"))
	wantError(t, nil, api.ErrClass, 2, i, a, plain("B", "A", "I", "X"))
	wantError(t, nil, api.ErrKind, 0, plain("A", "I"), i)
	wantError(t, nil, api.ErrKind, 1, i, spec{flags: 3, name: "J", super: "I"})
	wantError(t, nil, api.ErrKind, 1, a, spec{flags: 3, name: "I", super: "A"})
	wantError(t, nil, api.ErrKind, 0, spec{flags: 3, name: "I", super: "Throwable"})
	wantError(t, nil, api.ErrKind, 0, spec{flags: 3, name: "I", super: "I"})
	wantError(t, nil, api.ErrKind, 2, i, a, plain("B", "A", "I", "A"))
	wantError(t, nil, api.ErrKind, 0, plain("A", "Object", "Object"))
	wantError(t, nil, api.ErrKind, 0, plain("A", "Object", "A"))
	wantError(t, nil, api.ErrKind, 1, a, iface("I", "A"))
	// Of one file ErrClass comes first, of two files the earlier one's, of all of them ErrCycle last.
	wantError(t, nil, api.ErrClass, 0, plain("A", "Weak", "X"))
	wantError(t, nil, api.ErrClass, 0, plain("A", "", "A"))
	wantError(t, nil, api.ErrClass, 0, plain("A", "Object", "Object", "X"))
	wantError(t, nil, api.ErrKind, 0, plain("A", "Weak"), plain("B", "X"))
	wantError(t, nil, api.ErrClass, 0, plain("B", "X"), plain("A", "Weak"))
	wantError(t, nil, api.ErrClass, 1, plain("A", "A"), plain("B", "X"))
	wantError(t, nil, api.ErrKind, 2, plain("A", "B"), plain("B", "A"), plain("C", "Loader"))
}

func TestH1Cycle(t *testing.T) {
	wantError(t, nil, api.ErrCycle, 0, plain("A", "A"))
	wantError(t, nil, api.ErrCycle, 0, plain("A", "B"), plain("B", "A"))
	wantError(t, nil, api.ErrCycle, 0, iface("I", "J"), iface("J", "K"), iface("K", "I"))
	wantError(t, nil, api.ErrCycle, 1, plain("A", "Object"), iface("I", "I"))
	wantError(t, nil, api.ErrCycle, 2, iface("I"), iface("K", "I"), iface("J", "I", "K", "J"))
	// Below a cycle, but in none.
	wantError(t, nil, api.ErrCycle, 2, plain("C", "B"), plain("D", "C"), plain("B", "A"), plain("A", "B"))
	wantError(t, nil, api.ErrCycle, 1, plain("A", "Object", "J"), iface("J", "J"))
	wantError(t, mustOpen(t, nil, plain("A", "Object"), iface("I")), api.ErrCycle, 1, plain("B", "A", "J"), iface("J", "I", "J"))
	var ring []spec
	for i, s := range lots(64) {
		ring = append(ring, plain(s.name, lots(64)[(i+1)%64].name))
	}
	wantError(t, nil, api.ErrCycle, 0, ring...)
	ring[63].super = "Object"
	mustOpen(t, nil, ring...)
	ring[63].super = ring[40].name
	wantError(t, nil, api.ErrCycle, 40, ring...)
	slices.Reverse(ring)
	wantError(t, nil, api.ErrCycle, 0, ring...)
}

func TestH1Open(t *testing.T) {
	x := mustOpen(t, nil, plain("A", "Object"), plain("B", "A", "I"), iface("I"))
	y := mustOpen(t, x, plain("D", "C"), plain("C", "B", "J"), iface("J", "I"))
	z := mustOpen(t, y, plain("E", "D"))
	wantNames(t, x, "A", "B", "I")
	wantNames(t, y, "A", "B", "I", "D", "C", "J")
	wantNames(t, z, "A", "B", "I", "D", "C", "J", "E")
	wantFind(t, x, Class{Name: "B", Super: "A", Ifaces: []string{"I"}, Own: true, At: 1})
	for _, h := range []*Table{y, z} {
		wantFind(t, h, Class{Name: "B", Super: "A", Ifaces: []string{"I"}, At: 1})
		wantFind(t, h, Class{Name: "Deep", Super: "Throwable", At: -1})
	}
	wantFind(t, y, Class{Name: "C", Super: "B", Ifaces: []string{"J"}, Own: true, At: 1})
	wantFind(t, z, Class{Name: "C", Super: "B", Ifaces: []string{"J"}, At: 1})
	wantFind(t, z, Class{Name: "E", Super: "D", Own: true})
	wantChain(t, z, "E", "E", "D", "C", "B", "A", "Object")
	wantError(t, x, api.ErrTwice, 1, plain("C", "A"), plain("B", "A"))
	wantError(t, z, api.ErrTwice, 0, plain("I", "A"))
	wantError(t, x, api.ErrClass, 0, plain("F", "C"))
	wantError(t, x, api.ErrKind, 0, plain("F", "I"))
	wantError(t, x, api.ErrKind, 0, plain("F", "A", "B"))
	wantError(t, x, api.ErrKind, 0, spec{flags: 3, name: "F", super: "A"})
	wantError(t, x, api.ErrKind, 1, plain("F", "A"), plain("G", "String"))
	// Two tables opened from one know nothing of each other.
	w := mustOpen(t, x, iface("C"), plain("D", "Throwable", "C"))
	wantChain(t, w, "D", "D", "Throwable", "Object")
	wantChain(t, y, "D", "D", "C", "B", "A", "Object")
	if w.Sub(typ("D"), typ("A")) || !y.Sub(typ("D"), typ("A")) || w.Sub(typ("J"), typ("I")) {
		t.Error("two tables are one")
	}
	wantNames(t, w, "A", "B", "I", "C", "D")
	wantNames(t, y, "A", "B", "I", "D", "C", "J")
	wantNames(t, z, "A", "B", "I", "D", "C", "J", "E")
	v := mustOpen(t, x)
	wantNames(t, v, "A", "B", "I")
	wantFind(t, v, Class{Name: "A", Super: "Object"})
	wantNames(t, x, "A", "B", "I")
}

func TestH2Examples(t *testing.T) {
	x := mustOpen(t, nil, plain("A", "Object"), plain("B", "A", "I"), iface("I"))
	wantFind(t, x, Class{Name: "Deep", Super: "Throwable", At: -1})
	wantChain(t, x, "B", "B", "A", "Object")
	wantChain(t, x, "A", "A", "Object")
	wantChain(t, x, "I", "I", "Object")
	wantChain(t, x, "Object", "Object")
	wantNames(t, x, "A", "B", "I")
}

func TestH2Wrong(t *testing.T) {
	x := mustOpen(t, nil, plain("A", "Object"), plain("I", "A"))
	for _, h := range []*Table{x, mustOpen(t, x, plain("B", "A"))} {
		for _, name := range wrongNames {
			if c, ok := h.Find(name); ok || !reflect.DeepEqual(c, Class{}) {
				t.Errorf("Find(%.70q): %+v, %v", name, c, ok)
			}
			wantChain(t, h, name)
		}
	}
	wantChain(t, x, "B")
}

// sample has all kinds of classes.
func sample(t *testing.T) *Table {
	return mustOpen(t, nil, plain("A", "Object"), spec{flags: 2, name: "B", super: "A", ifaces: []string{"I"}}, iface("I", "J"), iface("J"), iface("K", "J"), plain("C", "A", "K"), plain("E", "Null", "J"), plain("D", "B"))
}

func TestH3Sub(t *testing.T) {
	x := sample(t)
	for _, c := range []struct {
		a, above, other string
	}{
		{"", "", "Object A [ I"},
		{"[", "[ Object", "[Object [[ A J [A"},
		{"[[", "[[ Object [Object", "[ [A [[Object"},
		{"[[[[", "[[[[ Object [Object [[Object [[[Object", "[[[ [[[[Object"},
		{"Object", "Object", "A J [Object [A [ String Throwable"},
		{"A", "A Object", "B I J [A String"},
		{"B", "B A I J Object", "K D C [B [A [Object"},
		{"D", "D B A I J Object", "K C E"},
		{"C", "C A K J Object", "I B"},
		{"I", "I J Object", "A B K"},
		{"J", "J Object", "I K"},
		{"E", "E Null Throwable Object J", "Arith A I"},
		{"Null", "Null Throwable Object", "Arith E J String"},
		{"String", "String Object", "Throwable A"},
		{"[D", "[D [B [A [I [J [Object Object", "[K [C D J [ [[D [[A"},
		{"[[I", "[[I [[J [[Object [Object Object", "[J [I I [[K"},
		{"[[[[B", "[[[[B [[[[J [[[[Object [[[Object [[Object [Object Object", "[[[[K [[[B [[[[ B [[[A"},
		{"[Object", "[Object Object", "[[Object [A"},
	} {
		for _, b := range strings.Split(c.above, " ") {
			if !x.Sub(typ(c.a), typ(b)) {
				t.Errorf("%q is no subtype of %q", c.a, b)
			}
		}
		for _, b := range strings.Fields(c.other) {
			if x.Sub(typ(c.a), typ(b)) {
				t.Errorf("%q is a subtype of %q", c.a, b)
			}
		}
		if c.a != "" && x.Sub(typ(c.a), typ("")) {
			t.Errorf("%q is a subtype of int", c.a)
		}
	}
}

func TestH3H4Wrong(t *testing.T) {
	x := sample(t)
	some := []api.Type{{}, typ("A"), typ("I"), typ("Object"), typ("[A"), typ("["), typ("[[[[Object")}
	bad := append(wrongTypes("A"), wrongTypes("Object")...)
	for i, a := range bad {
		if x.Sub(a, a) || x.Sub(a, bad[0]) || x.Sub(bad[i/2], a) {
			t.Errorf("%+.90v is a subtype of a wrong one", a)
		}
		if b, ok := x.Lub(a, a); ok || b != (api.Type{}) {
			t.Errorf("Lub of %+.90v: %v, %v", a, b, ok)
		}
		for _, b := range some {
			if x.Sub(a, b) || x.Sub(b, a) {
				t.Errorf("%+.90v is a subtype of %v, or that of it", a, b)
			}
			l, ok := x.Lub(a, b)
			m, mok := x.Lub(b, a)
			if ok || mok || l != (api.Type{}) || m != (api.Type{}) {
				t.Errorf("Lub of %+.90v and %v: %v, %v; %v, %v", a, b, l, ok, m, mok)
			}
		}
	}
	for _, a := range some {
		l, ok := x.Lub(a, api.Type{})
		m, mok := x.Lub(api.Type{}, a)
		if ok || mok || l != (api.Type{}) || m != (api.Type{}) {
			t.Errorf("Lub of int and %v: %v, %v; %v, %v", a, l, ok, m, mok)
		}
	}
	// A class of a table that is opened from one is not there in that one.
	y := mustOpen(t, x, plain("F", "A"))
	if x.Sub(typ("F"), typ("F")) || x.Sub(typ("F"), typ("A")) || !y.Sub(typ("F"), typ("A")) {
		t.Error("Sub of F")
	}
	if _, ok := x.Lub(typ("F"), typ("A")); ok {
		t.Error("Lub of F")
	}
}

func TestH4Lub(t *testing.T) {
	x := sample(t)
	for _, c := range []struct{ a, b, want string }{
		{"A", "A", "A"}, {"I", "I", "I"}, {"[", "[", "["}, {"[[[[A", "[[[[A", "[[[[A"},
		{"B", "A", "A"}, {"D", "A", "A"}, {"D", "C", "A"}, {"A", "String", "Object"}, {"A", "Object", "Object"},
		{"E", "Arith", "Throwable"}, {"E", "Null", "Null"}, {"Null", "Arith", "Throwable"}, {"Null", "Throwable", "Throwable"}, {"String", "Weak", "Object"},
		{"B", "I", "Object"}, {"B", "J", "Object"}, {"I", "J", "Object"}, {"I", "K", "Object"}, {"B", "C", "A"}, {"I", "Object", "Object"},
		{"[B", "[A", "[A"}, {"[B", "[I", "[Object"}, {"[[D", "[[C", "[[A"}, {"[A", "[String", "[Object"}, {"[[[[B", "[[[[A", "[[[[A"},
		{"[", "[A", "Object"}, {"[A", "A", "Object"}, {"[A", "Object", "Object"}, {"[", "[[", "Object"}, {"[[", "[A", "[Object"}, {"[[", "[[A", "[Object"},
		{"[[A", "[A", "[Object"}, {"[[A", "[B", "[Object"}, {"[[[[A", "[[A", "[[Object"}, {"[[[[", "[[[", "[[Object"}, {"[[[", "[[[A", "[[Object"}, {"[I", "J", "Object"},
	} {
		for _, p := range [][2]string{{c.a, c.b}, {c.b, c.a}} {
			if l, ok := x.Lub(typ(p[0]), typ(p[1])); !ok || l != typ(c.want) {
				t.Errorf("Lub of %q and %q: %v, %v; want %q", p[0], p[1], l, ok, c.want)
			}
		}
	}
}

func TestP3Apart(t *testing.T) {
	l := make([]api.File, 2, 3)
	l[0], l[1] = plain("A", "Object", "I").file(), iface("I").file()
	l[:3][2] = plain("B", "A").file()
	before := []api.File{plain("A", "Object", "I").file(), iface("I").file(), plain("B", "A").file()}
	x, e, _ := New(l)
	if e != api.OK || !reflect.DeepEqual(l[:3], before) {
		t.Fatal(e, l[:3])
	}
	for _, f := range l {
		clear(f.Pool)
		clear(f.Ifaces)
	}
	wantNames(t, x, "A", "I")
	wantFind(t, x, Class{Name: "A", Super: "Object", Ifaces: []string{"I"}, Own: true})
	c, _ := x.Find("A")
	c.Ifaces[0] = "X"
	names, chain := x.Names(), x.Chain("A")
	for _, l := range [][]string{names, chain} {
		for i := range l[:cap(l)] {
			l[:cap(l)][i] = "X"
		}
	}
	wantNames(t, x, "A", "I")
	wantChain(t, x, "A", "A", "Object")
	wantFind(t, x, Class{Name: "A", Super: "Object", Ifaces: []string{"I"}, Own: true})
	if !x.Sub(typ("A"), typ("I")) || x.Sub(typ("I"), typ("A")) {
		t.Error("Sub has changed")
	}
}

// A table that was not made by New or Open has no classes, but its calls end.
func TestP1Zero(t *testing.T) {
	x := new(Table)
	if len(x.Names()) != 0 || len(x.Chain("Object")) != 0 || x.Sub(typ("Object"), typ("Object")) || !x.Sub(typ("["), typ("[")) {
		t.Error("a class of nothing")
	}
	if _, ok := x.Find("Object"); ok {
		t.Error("Object of nothing")
	}
	wantError(t, x, api.ErrClass, 0, plain("A", "Object"))
	wantError(t, x, api.ErrCycle, 0, plain("Object", "Object"))
	mustOpen(t, x)
}

// Each interface has the sixteen next ones above it: there are more ways up than could be gone.
func TestH5ManyWays(t *testing.T) {
	names := lots(64)
	var l []spec
	for i, s := range names {
		n := iface(s.name)
		for _, up := range names[i+1 : min(i+17, 64)] {
			n.ifaces = append(n.ifaces, up.name)
		}
		l = append(l, n)
	}
	x := mustOpen(t, nil, l...)
	for i := range names {
		for j := range names {
			if ok := x.Sub(typ(names[i].name), typ(names[j].name)); ok != (i <= j) {
				t.Fatal(i, j, ok)
			}
		}
	}
	l[63].ifaces = []string{names[3].name}
	wantError(t, nil, api.ErrCycle, 3, l...)
}

// A chain through as many tables as there can be loaders.
func TestH5Deep(t *testing.T) {
	var x *Table
	super := "Object"
	for i := range api.MaxLoaders + 1 {
		var l []spec
		for _, s := range lots(64) {
			l = append(l, plain(s.name+strings.Repeat("y", i/10)+string(rune('A'+i%10)), super))
			super = l[len(l)-1].name
		}
		slices.Reverse(l)
		x = mustOpen(t, x, l...)
	}
	const own = 64 * (api.MaxLoaders + 1)
	chain := x.Chain(super)
	if len(chain) != own+1 || len(x.Names()) != 14+own {
		t.Fatal(len(chain))
	}
	for i, name := range chain {
		if !x.Sub(typ(super), typ(name)) || x.Sub(typ(name), typ(super)) != (i == 0) {
			t.Fatal(i, name)
		}
		if l, ok := x.Lub(typ("[["+chain[own/2]), typ("[["+name)); !ok || l != typ("[["+chain[max(i, own/2)]) {
			t.Fatal(i, name, l)
		}
	}
}
