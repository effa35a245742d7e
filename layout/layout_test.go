package layout

import (
	"math"
	"reflect"
	"slices"
	"strconv"
	"strings"
	"testing"

	"crucible/api"
	"crucible/desc"
	"crucible/hier"
)

// spec is a class as a test tells it.
type spec struct {
	flags       int
	name, super string
	ifaces      []string
	fields      []fieldSpec
}

type fieldSpec struct {
	name, desc string
	t          api.Type // that of desc, if it is one
	static     bool
}

// fieldSpecs are fields of a short form: they are parted by commas, each a name and a descriptor, a static one with a star ahead.
func fieldSpecs(s string) []fieldSpec {
	var l []fieldSpec
	for _, f := range strings.FieldsFunc(s, func(c rune) bool { return c == ',' }) {
		name, d, _ := strings.Cut(strings.TrimSpace(f), " ")
		short := strings.TrimPrefix(name, "*")
		t, _ := desc.Field(d)
		l = append(l, fieldSpec{name: short, desc: d, t: t, static: short != name})
	}
	return l
}

func plain(name, super, fields string, ifaces ...string) spec {
	return spec{name: name, super: super, ifaces: ifaces, fields: fieldSpecs(fields)}
}

func iface(name, fields string, ifaces ...string) spec {
	return spec{flags: 3, name: name, super: "Object", ifaces: ifaces, fields: fieldSpecs(fields)}
}

// file is the file of a class. A text has as many constants as it is used.
func (s spec) file() api.File {
	f := api.File{Flags: s.flags}
	text := func(s string) int {
		f.Pool = append(f.Pool, api.Const{Tag: api.PoolName, Text: s})
		return len(f.Pool)
	}
	class := func(name string) int {
		f.Pool = append(f.Pool, api.Const{Tag: api.PoolClass, A: text(name)})
		return len(f.Pool)
	}
	f.This, f.Super = class(s.name), class(s.super)
	for _, i := range s.ifaces {
		f.Ifaces = append(f.Ifaces, class(i))
	}
	for _, m := range s.fields {
		flags := 0
		if m.static {
			flags = 1
		}
		f.Fields = append(f.Fields, api.Member{Flags: flags, Name: text(m.name), Desc: text(m.desc)})
	}
	return f
}

func filesOf(l []spec) []api.File {
	files := []api.File{}
	for _, s := range l {
		files = append(files, s.file())
	}
	return files
}

// seen is a table and the layout of it; both are nil where none was made.
type seen struct {
	h *hier.Table
	l *Layout
}

// tableOf is a table opened from that of up, or made where that is nil.
func tableOf(t testing.TB, up *hier.Table, l ...spec) *hier.Table {
	t.Helper()
	opened := hier.New
	if up != nil {
		opened = up.Open
	}
	h, e, at := opened(filesOf(l))
	if e != api.OK {
		t.Fatal(e, at, l)
	}
	return h
}

func open(t testing.TB, up seen, l ...spec) seen {
	t.Helper()
	h := tableOf(t, up.h, l...)
	x, e, at := Make(h, filesOf(l), up.l)
	if x == nil || e != api.OK || at != 0 {
		t.Fatalf("%v: %v, %v, %d", l, x, e, at)
	}
	return seen{h, x}
}

func wantError(t *testing.T, h *hier.Table, files []api.File, up *Layout, want api.Errno, wantAt int) {
	t.Helper()
	if x, e, at := Make(h, files, up); x != nil || e != want || at != wantAt {
		t.Errorf("%v, %v, %d; want %v, %d", x, e, at, want, wantAt)
	}
}

// wantFault is an error of files of which there is a table.
func wantFault(t *testing.T, up seen, want api.Errno, wantAt int, l ...spec) {
	t.Helper()
	wantError(t, tableOf(t, up.h, l...), filesOf(l), up.l, want, wantAt)
}

// typ is the type of a short form: so many brackets, and a name; no name is int.
func typ(s string) api.Type {
	name := strings.TrimLeft(s, "[")
	return api.Type{Dims: len(s) - len(name), Name: name}
}

// show is a type's short form.
func show(t api.Type) string { return strings.Repeat("[", t.Dims) + t.Name }

func showSlots(l []Slot) string {
	var s []string
	for _, f := range l {
		s = append(s, f.Class+"."+f.Name+" "+show(f.T))
	}
	return strings.Join(s, ", ")
}

// wantClass holds a description against its Slots, a bar and its Statics. Its Refs are held against the types of the Slots.
func wantClass(t *testing.T, x *Layout, name, want string) {
	t.Helper()
	c, ok := x.Class(name)
	if got := showSlots(c.Slots) + "|" + showSlots(c.Statics); !ok || c.Name != name || got != want {
		t.Errorf("Class(%q): %q: %s, %v; want %s", name, c.Name, got, ok, want)
	}
	if len(c.Refs) != len(c.Slots) {
		t.Fatalf("Class(%q): %d Slots, %d Refs", name, len(c.Slots), len(c.Refs))
	}
	for i, s := range c.Slots {
		if c.Refs[i] != (s.T != api.Type{}) {
			t.Errorf("Class(%q): the Ref of %v is %v", name, s, c.Refs[i])
		}
	}
}

func wantNoClass(t *testing.T, x *Layout, name string) {
	t.Helper()
	if c, ok := x.Class(name); ok || !reflect.DeepEqual(c, Class{}) {
		t.Errorf("Class(%.90q): %v, %v", name, c, ok)
	}
}

// wantField holds a field against its class and its index, with a star ahead if it is static; or against nothing.
func wantField(t *testing.T, x *Layout, class, name, desc, want string) {
	t.Helper()
	of, at, static, ok := x.Field(class, name, typ(desc))
	got := ""
	if ok {
		got = of + " " + strconv.Itoa(at)
		if static {
			got = "*" + got
		}
	} else if of != "" || at != 0 || static {
		t.Errorf("Field(%q, %q, %q): false, but %q, %d, %v", class, name, desc, of, at, static)
	}
	if got != want {
		t.Errorf("Field(%q, %q, %q): %q; want %q", class, name, desc, got, want)
	}
}

// some is the document's example: B is ahead of A, which is above it.
func some(t testing.TB) seen {
	t.Helper()
	return open(t, seen{}, plain("B", "A", "x LA;"), plain("A", "Object", "x I, y LA;, *n I"))
}

// many are fields of int, from one number on, with what goes ahead of each.
func many(ahead string, from, n int) string {
	var l []string
	for i := range n {
		l = append(l, ahead+"f"+strconv.Itoa(from+i)+" I")
	}
	return strings.Join(l, ",")
}

func builtinNames() []string {
	return strings.Fields("Object String Weak Loader Throwable Null Arith Bounds Size Cast Store Monitor NoClass Deep")
}

// wrongNames are names of no class of a test.
var wrongNames = []string{"", "X", "object", "Object ", "Objec", "a b", "[A", "A;", "LA;", "I;", "\xff", "\x00", "é", strings.Repeat("A", 64), strings.Repeat("A", 65), strings.Repeat("A", 100000)}

func TestY1Examples(t *testing.T) {
	x := some(t)
	wantClass(t, x.l, "B", "A.x , A.y A, B.x A|")
	wantClass(t, x.l, "A", "A.x , A.y A|A.n ")
	c, _ := x.l.Class("B")
	if !slices.Equal(c.Refs, []bool{false, true, true}) {
		t.Error(c.Refs)
	}
	wantFault(t, seen{}, api.ErrType, 0, plain("A", "Object", "x LX;"))
}

func TestY1Order(t *testing.T) {
	l := []spec{
		plain("C", "B", "c LI;, *s LC;, a [I, d [[LB;"),
		plain("A", "Throwable", "*s I, b I, *r [I, a LString;, *q LA;"),
		iface("I", "*k I, *a [LI;"),
		plain("B", "A", "", "I"),
		plain("D", "C", "*a I, *b I", "I"),
		plain("E", "Object", "é I, x-y I, <init> I, IL I"),
	}
	x := open(t, seen{}, l...)
	wantClass(t, x.l, "A", "A.b , A.a String|A.s , A.r [, A.q A")
	wantClass(t, x.l, "B", "A.b , A.a String|")
	wantClass(t, x.l, "C", "A.b , A.a String, C.c I, C.a [, C.d [[B|C.s C")
	wantClass(t, x.l, "D", "A.b , A.a String, C.c I, C.a [, C.d [[B|D.a , D.b ")
	wantClass(t, x.l, "E", "E.é , E.x-y , E.<init> , E.IL |")
	wantClass(t, x.l, "I", "|I.k , I.a [I")
	c, _ := x.l.Class("C")
	if !slices.Equal(c.Refs, []bool{false, true, true, true, true}) {
		t.Error(c.Refs)
	}
	for _, name := range builtinNames() {
		wantClass(t, x.l, name, "|")
	}
}

// A layout of a table that was opened describes what up describes, as up does.
func TestY1Up(t *testing.T) {
	x := some(t)
	y := open(t, x, plain("P", "B", "z I, *n LB;, x LP;"), iface("J", "*j LP;"))
	z := open(t, y, plain("Q", "P", "x I, *n LA;", "J"))
	other := open(t, x, plain("P", "Object", "w I"))
	for _, l := range []*Layout{x.l, y.l, z.l, other.l} {
		wantClass(t, l, "B", "A.x , A.y A, B.x A|")
		wantClass(t, l, "A", "A.x , A.y A|A.n ")
	}
	for _, l := range []*Layout{y.l, z.l} {
		wantClass(t, l, "P", "A.x , A.y A, B.x A, P.z , P.x P|P.n B")
		wantClass(t, l, "J", "|J.j P")
	}
	wantClass(t, other.l, "P", "P.w |")
	wantClass(t, z.l, "Q", "A.x , A.y A, B.x A, P.z , P.x P, Q.x |Q.n A")
	wantNoClass(t, x.l, "P")
	wantNoClass(t, y.l, "Q")
	wantNoClass(t, other.l, "J")
	// No files.
	none := open(t, z)
	wantClass(t, none.l, "Q", "A.x , A.y A, B.x A, P.z , P.x P, Q.x |Q.n A")
	none = open(t, seen{})
	wantClass(t, none.l, "Deep", "|")
	wantNoClass(t, none.l, "Q")
}

func TestY1Files(t *testing.T) {
	a, b, c := plain("A", "Object", "x I"), plain("B", "A", ""), plain("C", "Object", "")
	x := open(t, seen{}, a, b)
	wrong := spec{flags: 1, name: "B", super: "A"}
	noField := plain("B", "A", "x Q")
	twice := plain("B", "A", "x I, x LA;")
	nonStatic := iface("B", "x I")
	for i, l := range [][]spec{
		nil, {a}, {b}, {a, b, c}, {a, b, b}, {b, a}, {a, a}, {b, b}, {a, c}, {c, b}, {a, plain("Object", "Object", "")}, {a, plain("b", "A", "")},
		{a, wrong}, {a, noField}, {a, twice}, {a, nonStatic}, {a, plain("B", "A", many("", 0, 201))},
		// The type of a field is looked at when all files fit.
		{plain("A", "Object", "x LX;"), wrong}, {plain("A", "Object", "x LX;"), c}, {plain("A", "Object", "x LX;")},
	} {
		t.Log(i)
		wantError(t, x.h, filesOf(l), nil, api.ErrArg, 0)
	}
	wantError(t, x.h, []api.File{a.file(), {}}, nil, api.ErrArg, 0)
	wantError(t, x.h, make([]api.File, 2), nil, api.ErrArg, 0)
	wantError(t, x.h, make([]api.File, 100000), nil, api.ErrArg, 0)
	// A layout that isn't needed is no error.
	if y, e, at := Make(x.h, filesOf([]spec{a, b}), x.l); y == nil || e != api.OK || at != 0 {
		t.Error(y, e, at)
	}
	y := tableOf(t, x.h, c)
	// A's files are those of the table that y was opened from.
	for _, l := range [][]spec{nil, {a}, {b}, {a, b}, {a, b, c}, {c, c}, {plain("D", "A", "")}} {
		wantError(t, y, filesOf(l), x.l, api.ErrArg, 0)
	}
}

func TestY1NoUp(t *testing.T) {
	x := some(t)
	more := []spec{plain("P", "Object", "x LX;")}
	h := tableOf(t, x.h, more...)
	less := open(t, seen{}, plain("A", "Object", ""))
	nothing, others := open(t, seen{}), open(t, seen{}, plain("b", "Object", ""), plain("P", "Object", ""))
	for i, up := range []*Layout{nil, new(Layout), nothing.l, others.l, less.l} {
		t.Log(i)
		wantError(t, h, filesOf(more), up, api.ErrArg, 0)
	}
	wantError(t, h, filesOf(more), x.l, api.ErrType, 0)
	// No files, and classes that are not described.
	h = tableOf(t, x.h)
	wantError(t, h, nil, nil, api.ErrArg, 0)
	wantError(t, h, nil, less.l, api.ErrArg, 0)
	// What up describes beside them is not in the table.
	y := open(t, x, plain("P", "A", "p I"))
	h = tableOf(t, x.h, plain("Q", "A", "q I"))
	l, e, _ := Make(h, []api.File{plain("Q", "A", "q I").file()}, y.l)
	if e != api.OK {
		t.Fatal(e)
	}
	wantClass(t, l, "Q", "A.x , A.y A, Q.q |")
	wantNoClass(t, l, "P")
	wantField(t, l, "P", "p", "", "")
	wantFaultOf(t, h, y.l, plain("Q", "A", "q LP;"))
}

// wantFaultOf is an ErrType of the one file of a table.
func wantFaultOf(t *testing.T, h *hier.Table, up *Layout, s spec) {
	t.Helper()
	wantError(t, h, filesOf([]spec{s}), up, api.ErrType, 0)
}

func TestY1ErrType(t *testing.T) {
	x := open(t, seen{}, plain("A", "Object", ""), iface("I", ""))
	y := tableOf(t, x.h, plain("P", "Object", ""))
	for _, d := range []string{"LX;", "[LX;", "[[[[LX;", "La;", "LInt;", "Lobject;", "LObjects;", "LA/;", "L" + strings.Repeat("A", 64) + ";"} {
		for _, ahead := range []string{"", "*"} {
			wantFault(t, x, api.ErrType, 0, plain("B", "A", ahead+"x "+d))
			wantFault(t, x, api.ErrType, 0, plain("B", "A", "a I, *b I, "+ahead+"x "+d+", *c I, d I"))
			wantFault(t, x, api.ErrType, 2, plain("B", "A", "a LD;"), plain("C", "D", "*d LB;"), plain("D", "B", ahead+"x "+d), plain("E", "D", "y "+d))
		}
		wantFault(t, x, api.ErrType, 1, plain("B", "A", ""), iface("J", "*x "+d))
	}
	// The fields of a class that is opened later.
	wantFault(t, x, api.ErrType, 0, plain("B", "A", "x LP;"))
	wantFaultOf(t, y, x.l, plain("P", "A", "x LB;"))
	open(t, x, plain("B", "A", "a I, b [I, c LA;, *d LI;, e [[LObject;, f LDeep;, *g LB;, h LC;, *i [[[[I"), iface("C", "*a [[[[LC;, *b LString;"))
}

func TestY1ErrMany(t *testing.T) {
	full := open(t, seen{}, plain("B", "A", many("", 100, 100)+","+many("*", 200, 100)), plain("A", "Object", many("", 0, 100)+","+many("*", 200, 100)))
	if c, _ := full.l.Class("B"); len(c.Slots) != 200 || len(c.Statics) != 100 || c.Slots[199].Name != "f199" || c.Slots[99].Class != "A" {
		t.Error(len(c.Slots), len(c.Statics))
	}
	wantField(t, full.l, "B", "f199", "", "B 199")
	wantField(t, full.l, "B", "f299", "", "*B 99")
	y := open(t, full, plain("P", "B", many("*", 0, 200)), plain("Q", "P", many("*", 0, 200)), iface("J", many("*", 0, 200)))
	wantField(t, y.l, "Q", "f199", "", "*Q 199")
	wantFault(t, y, api.ErrMany, 0, plain("R", "Q", "x I"))
	wantFault(t, full, api.ErrMany, 2, plain("P", "B", "*x I"), plain("Q", "P", ""), plain("R", "P", "x I"), plain("S", "R", "y I"))
	wantFault(t, seen{}, api.ErrMany, 0, plain("B", "A", many("", 0, 101)), plain("A", "Object", many("", 0, 100)))
	wantFault(t, seen{}, api.ErrMany, 1, plain("A", "Object", many("", 0, 200)), plain("B", "A", "x I"))
	// The fields of all classes above count, in whatever order their files are.
	var l []spec
	for i := range 64 {
		l = append(l, plain("C"+strconv.Itoa(i), "C"+strconv.Itoa(i+1), many("", 0, 4)))
	}
	l[63].super, l[0].fields = "Object", nil
	wantFault(t, seen{}, api.ErrMany, 0, l...)
	slices.Reverse(l)
	wantFault(t, seen{}, api.ErrMany, 50, l...)
	for i := range l {
		l[i].fields = fieldSpecs(many("", i, 3) + "," + many("*", 200, 100))
	}
	open(t, seen{}, l...)
}

// The first file with an error counts, and in it ErrType.
func TestY1First(t *testing.T) {
	a := plain("A", "Object", many("", 0, 150))
	bad := plain("C", "Object", "x LX;")
	big := plain("B", "A", many("", 0, 51))
	both := plain("D", "A", many("", 0, 51)+", *x LX;")
	wantFault(t, seen{}, api.ErrMany, 1, a, big, bad)
	wantFault(t, seen{}, api.ErrType, 0, bad, a, big)
	wantFault(t, seen{}, api.ErrType, 1, a, both, big)
	wantFault(t, seen{}, api.ErrMany, 0, big, a, both)
	// An error of a class above is that of its own file.
	wantFault(t, seen{}, api.ErrMany, 0, big, plain("A", "Object", many("", 0, 150)+", x LX;"))
	wantFault(t, seen{}, api.ErrType, 1, plain("B", "A", ""), plain("A", "Object", "x LX;"))
}

func TestY2Class(t *testing.T) {
	x := some(t)
	for _, name := range builtinNames() {
		wantClass(t, x.l, name, "|")
	}
	for _, name := range wrongNames {
		wantNoClass(t, x.l, name)
	}
}

func TestY2Examples(t *testing.T) {
	x := some(t)
	wantField(t, x.l, "B", "x", "", "A 0")
	wantField(t, x.l, "B", "x", "A", "B 2")
	wantField(t, x.l, "B", "n", "", "*A 0")
	wantField(t, x.l, "B", "z", "", "")
}

// The class itself is asked first, then each interface with all above it, then the Super.
func TestY2Order(t *testing.T) {
	x := open(t, seen{},
		iface("I", "*a I, *b I", "K"), iface("J", "*a I, *b I, *c I, *d I, *e I"), iface("K", "*z I, *a I, *b I, *c I", "L"), iface("L", "*d I, *a I"),
		plain("A", "Object", "z I, a I, b I, c I, d I, e I, f I, *g I"),
		plain("B", "A", "*z I, a I, g I", "I", "J"),
		plain("C", "Throwable", "f I", "J", "I"),
		plain("D", "B", ""), plain("E", "C", "", "L"), plain("F", "D", "*f I", "L", "L"))
	for _, c := range []struct{ class, wants string }{
		{"A", "A 1,A 2,A 3,A 4,A 5,A 6,*A 0,A 0"},
		{"B", "B 7,*I 1,*K 3,*L 0,*J 4,A 6,B 8,*B 0"},
		{"C", "*J 0,*J 1,*J 2,*J 3,*J 4,C 0,,*K 0"},
		{"D", "B 7,*I 1,*K 3,*L 0,*J 4,A 6,B 8,*B 0"},
		{"E", "*L 1,*J 1,*J 2,*L 0,*J 4,C 0,,*K 0"},
		{"F", "*L 1,*I 1,*K 3,*L 0,*J 4,*F 0,B 8,*B 0"},
		{"I", "*I 0,*I 1,*K 3,*L 0,,,,*K 0"},
		{"J", "*J 0,*J 1,*J 2,*J 3,*J 4,,,"},
		{"L", "*L 1,,,*L 0,,,,"},
		{"Throwable", ",,,,,,,"},
	} {
		for i, want := range strings.Split(c.wants, ",") {
			wantField(t, x.l, c.class, "abcdefgz"[i:i+1], "", want)
		}
	}
	// The same from a table that was opened, and for a class in it.
	y := open(t, x, plain("P", "F", "b I", "I"), iface("M", "", "J", "I"), plain("Q", "Object", "", "M"))
	for i, want := range strings.Split("*I 0,P 9,*K 3,*L 0,*J 4,*F 0,B 8,*K 0", ",") {
		wantField(t, y.l, "P", "abcdefgz"[i:i+1], "", want)
	}
	for i, want := range strings.Split("*J 0,*J 1,*J 2,*J 3,*J 4,,,*K 0", ",") {
		wantField(t, y.l, "M", "abcdefgz"[i:i+1], "", want)
		wantField(t, y.l, "Q", "abcdefgz"[i:i+1], "", want)
	}
	wantField(t, y.l, "F", "b", "", "*I 1")
	wantField(t, x.l, "P", "b", "", "")
}

// A field is found by its name and the whole of its type.
func TestY2Types(t *testing.T) {
	x := open(t, seen{},
		plain("A", "Object", "x I, *y LA;"), plain("B", "A", "*x [I, y [LA;"), plain("C", "B", "x LA;, *y LB;", "I"),
		iface("I", "*x [LA;, *y I"), plain("D", "C", "*x LD;, y [[LA;"))
	for _, c := range []struct{ name, desc, want string }{
		{"x", "", "A 0"}, {"x", "[", "*B 0"}, {"x", "A", "C 2"}, {"x", "[A", "*I 0"}, {"x", "D", "*D 0"}, {"x", "[[", ""}, {"x", "B", ""}, {"x", "[D", ""}, {"x", "a", ""},
		{"y", "", "*I 1"}, {"y", "[", ""}, {"y", "A", "*A 0"}, {"y", "[A", "B 1"}, {"y", "B", "*C 0"}, {"y", "[[A", "D 3"}, {"y", "[[[A", ""}, {"y", "Object", ""},
		{"z", "", ""}, {"", "", ""}, {"X", "", ""}, {"x ", "", ""}, {"A.x", "", ""},
	} {
		wantField(t, x.l, "D", c.name, c.desc, c.want)
	}
	for _, dims := range []int{math.MinInt, -1 << 32, -4, -1, 5, 1 << 32, 1<<32 + 1, math.MaxInt} {
		for _, name := range []string{"", "A", "D"} {
			for _, field := range []string{"x", "y"} {
				if of, at, static, ok := x.l.Field("D", field, api.Type{Dims: dims, Name: name}); ok || static || at != 0 || of != "" {
					t.Error(dims, name, field, of, at, static)
				}
			}
		}
	}
	for _, name := range wrongNames {
		wantField(t, x.l, name, "x", "", "")
		wantField(t, x.l, "D", name, "", "")
		wantField(t, x.l, "D", "x", name+"X", "")
	}
	for _, name := range builtinNames() {
		wantField(t, x.l, name, "x", "", "")
		wantField(t, x.l, name, "", "", "")
	}
}

func TestP3Apart(t *testing.T) {
	l := make([]api.File, 2, 3)
	specs := []spec{plain("B", "A", "x LA;, *s I"), plain("A", "Object", "y [I, *n LB;"), plain("C", "B", "z I")}
	copy(l[:3], filesOf(specs))
	h := tableOf(t, nil, specs[:2]...)
	x, e, _ := Make(h, l, nil)
	if e != api.OK || !reflect.DeepEqual(l[:3], filesOf(specs)) {
		t.Fatal(e, l[:3])
	}
	up, e, _ := Make(tableOf(t, h, specs[2]), l[2:3], x)
	if e != api.OK || !reflect.DeepEqual(l[:3], filesOf(specs)) {
		t.Fatal(e, l[:3])
	}
	for _, f := range l[:3] {
		clear(f.Pool)
		clear(f.Fields)
	}
	clear(l[:3])
	for _, name := range []string{"A", "B", "C"} {
		for _, l := range []*Layout{x, up} {
			c, _ := l.Class(name)
			for _, l := range [][]Slot{c.Slots, c.Statics} {
				for i := range l[:cap(l)] {
					l[:cap(l)][i] = Slot{Class: "X", Name: "x"}
				}
			}
			clear(c.Refs[:cap(c.Refs)])
		}
	}
	for _, l := range []*Layout{x, up} {
		wantClass(t, l, "A", "A.y [|A.n B")
		wantClass(t, l, "B", "A.y [, B.x A|B.s ")
		wantField(t, l, "B", "n", "B", "*A 0")
		wantField(t, l, "B", "x", "A", "B 1")
	}
	wantClass(t, up, "C", "A.y [, B.x A, C.z |")
	wantNoClass(t, x, "C")
	// Two classes below one have nothing of each other.
	y := open(t, seen{h, x}, plain("P", "B", "p I, *q I"), plain("Q", "B", "q LP;, *p I"))
	wantClass(t, y.l, "P", "A.y [, B.x A, P.p |P.q ")
	wantClass(t, y.l, "Q", "A.y [, B.x A, Q.q P|Q.p ")
}

// A layout that Make did not make describes nothing, but its calls end; a table without classes has a layout of none.
func TestP1Zero(t *testing.T) {
	none, e, at := Make(new(hier.Table), nil, nil)
	if none == nil || e != api.OK || at != 0 {
		t.Fatal(none, e, at)
	}
	for _, x := range []*Layout{new(Layout), none} {
		wantNoClass(t, x, "Object")
		wantNoClass(t, x, "")
		wantField(t, x, "Object", "x", "", "")
		wantField(t, x, "", "", "", "")
	}
	wantError(t, new(hier.Table), filesOf([]spec{plain("A", "Object", "")}), nil, api.ErrArg, 0)
	wantError(t, new(hier.Table), make([]api.File, 1), some(t).l, api.ErrArg, 0)
}

// What is above a class is the table's matter: a file of the same name may say otherwise.
func TestP1OtherFiles(t *testing.T) {
	h := tableOf(t, nil, plain("A", "Object", "x I"), plain("B", "A", "y I"), plain("C", "Object", ""))
	x, e, _ := Make(h, filesOf([]spec{plain("A", "B", "v I", "C"), plain("B", "X", "w I"), iface("C", "*c I", "C")}), nil)
	if e != api.OK {
		t.Fatal(e)
	}
	wantClass(t, x, "A", "A.v |")
	wantClass(t, x, "B", "A.v , B.w |")
	wantField(t, x, "B", "v", "", "A 0")
	wantField(t, x, "A", "w", "", "")
	wantField(t, x, "A", "c", "", "")
	wantField(t, x, "C", "c", "", "*C 0")
}

// Each interface has the sixteen next ones above it: there are more ways up than could be gone.
func TestP1ManyWays(t *testing.T) {
	name := func(i int) string { return "I" + strconv.Itoa(i) }
	var l []spec
	for i := range 63 {
		s := iface(name(i), "*f"+strconv.Itoa(i)+" I, *all I")
		for j := i + 1; j < min(i+17, 63); j++ {
			s.ifaces = append(s.ifaces, name(j))
		}
		l = append(l, s)
	}
	l = append(l, plain("A", "Object", "x I", name(0), name(0), name(1)))
	x := open(t, seen{}, l...)
	for i := range 63 {
		for j := range 63 {
			want := ""
			if i <= j {
				want = "*" + name(j) + " 0"
			}
			wantField(t, x.l, name(i), "f"+strconv.Itoa(j), "", want)
		}
		wantField(t, x.l, "A", "f"+strconv.Itoa(i), "", "*"+name(i)+" 0")
		wantField(t, x.l, name(i), "all", "", "*"+name(i)+" 1")
		wantField(t, x.l, name(i), "x", "", "")
	}
	wantField(t, x.l, "A", "none", "", "")
	wantField(t, x.l, "A", "all", "[", "")
}

// A chain through as many tables as there can be loaders; each class is ahead of the one above it.
func TestP1Deep(t *testing.T) {
	var x seen
	super, last := "Object", ""
	fields := 0
	for i := range api.MaxLoaders + 1 {
		var l []spec
		for j := range 64 {
			own := "*s" + strconv.Itoa(i*64+j) + " I"
			if j%32 == 0 && fields < 200 {
				own += ", f" + strconv.Itoa(fields) + " I"
				fields++
			}
			s := plain("C"+strconv.Itoa(i*64+j), super, own)
			if last != "" && j == 0 {
				s.ifaces = []string{last}
			}
			l = append(l, s)
			super = s.name
		}
		slices.Reverse(l)
		l[0].super, l[1] = l[1].super, iface("I"+strconv.Itoa(i), "*k"+strconv.Itoa(i)+" I", l[63].ifaces...)
		last = l[1].name
		x = open(t, x, l...)
	}
	c, _ := x.l.Class(super)
	if len(c.Slots) != 200 {
		t.Fatal(len(c.Slots))
	}
	for i, s := range c.Slots {
		wantField(t, x.l, super, "f"+strconv.Itoa(i), "", s.Class+" "+strconv.Itoa(i))
	}
	for i := range api.MaxLoaders + 1 {
		wantField(t, x.l, super, "s"+strconv.Itoa(i*64), "", "*C"+strconv.Itoa(i*64)+" 0")
		if i < api.MaxLoaders {
			wantField(t, x.l, super, "k"+strconv.Itoa(i), "", "*I"+strconv.Itoa(i)+" 0")
		}
	}
	wantField(t, x.l, super, "none", "", "")
}
