package lattice

import (
	"math"
	"strings"
	"testing"

	"crucible/api"
	"crucible/hier"
)

// file is the file of a class.
func file(flags int, name, super string, ifaces ...string) api.File {
	f := api.File{Flags: flags}
	link := func(name string) int {
		f.Pool = append(f.Pool, api.Const{Tag: api.PoolName, Text: name}, api.Const{Tag: api.PoolClass, A: len(f.Pool) + 1})
		return len(f.Pool)
	}
	f.This, f.Super = link(name), link(super)
	for _, i := range ifaces {
		f.Ifaces = append(f.Ifaces, link(i))
	}
	return f
}

// sample is a table of A, B and C below it, D below C, E below Null, and the interfaces I, J below it, and K.
func sample(t testing.TB) *hier.Table {
	t.Helper()
	h, e, at := hier.New([]api.File{
		file(0, "D", "C", "K"), file(0, "B", "A", "J"), file(0, "C", "A", "I"), file(0, "A", "Object"), file(0, "E", "Null", "I"),
		file(3, "I", "Object"), file(3, "J", "Object", "I"), file(3, "K", "Object"),
	})
	if e != api.OK {
		t.Fatal(e, at)
	}
	return h
}

// typ is the type of a short form: so many brackets, and a name; no name is int.
func typ(s string) api.Type {
	name := strings.TrimLeft(s, "[")
	return api.Type{Dims: len(s) - len(name), Name: name}
}

// ref is a REF of the type of a short form.
func ref(s string) api.Known { return api.Known{Kind: 3, T: typ(s)} }

func newAt(n int) api.Known { return api.Known{Kind: 4, N: n} }

// kinds are the kinds that have nothing but themselves, by short forms.
var kinds = map[string]api.Known{"top": {}, "int": {Kind: 1}, "null": {Kind: 2}, "this": {Kind: 5}, "new3": newAt(3), "new4": newAt(4)}

// known is the known of a short form: one of kinds, or a REF of a type.
func known(s string) api.Known {
	if k, ok := kinds[s]; ok {
		return k
	}
	return ref(s)
}

func knowns(s string) []api.Known {
	var l []api.Known
	for _, f := range strings.Fields(s) {
		l = append(l, known(f))
	}
	return l
}

// wrongDims are numbers of dimensions that no type has.
var wrongDims = []int{math.MinInt, math.MinInt + 1, -1 << 32, -5, -1, 5, 6, 9, 1 << 31, 1 << 32, 1<<32 + 1, math.MaxInt - 1, math.MaxInt}

// wrongNames are texts that are no names, and not empty.
var wrongNames = []string{" ", "a b", "A;", "[A", "(", ")", "a.b", "\x00", "\n", "\x7f", "\xff", "A\xed\xa0\x80", "LA;", strings.Repeat("A", 65), strings.Repeat("é", 65), strings.Repeat("A", 100000)}

// wrongTypes are types that are not valid.
func wrongTypes() []api.Type {
	var l []api.Type
	for _, dims := range wrongDims {
		l = append(l, api.Type{Dims: dims}, api.Type{Dims: dims, Name: "A"}, api.Type{Dims: dims, Name: "Object"})
	}
	for _, name := range wrongNames {
		for dims := range 5 {
			l = append(l, api.Type{Dims: dims, Name: name})
		}
	}
	return l
}

// wrongKnowns are knowns that are not valid: each has one fault.
func wrongKnowns() []api.Known {
	l := []api.Known{{Kind: 3}}
	for _, kind := range []int{math.MinInt, -1 << 32, -3, -1, 6, 7, 9, 1 << 32, 1<<32 + 2, math.MaxInt} {
		l = append(l, api.Known{Kind: kind}, api.Known{Kind: kind, T: typ("A")}, api.Known{Kind: kind, N: 3})
	}
	for _, n := range []int{math.MinInt, -1 << 32, -1, 1, 3, 1 << 32, math.MaxInt} {
		for _, kind := range []int{0, 1, 2, 5} {
			l = append(l, api.Known{Kind: kind, N: n})
		}
		l = append(l, api.Known{Kind: 3, T: typ("A"), N: n}, api.Known{Kind: 3, T: typ("["), N: n})
		if n < 0 {
			l = append(l, newAt(n))
		}
	}
	for _, kind := range []int{0, 1, 2, 4, 5} {
		for _, a := range append(wrongTypes(), typ("A"), typ("Object"), typ("["), typ("[[A")) {
			l = append(l, api.Known{Kind: kind, T: a})
		}
	}
	for _, a := range wrongTypes() {
		l = append(l, api.Known{Kind: 3, T: a})
	}
	return l
}

func TestT71Right(t *testing.T) {
	for _, k := range knowns("top int null this new3 new4 A Object nowhere I Null int0 [ [[ [[[[ [A [[[[A [I <init> é") {
		if !Right(k) {
			t.Error(k)
		}
	}
	for _, n := range []int{0, 1, 4095, 1 << 32, math.MaxInt} {
		if !Right(newAt(n)) {
			t.Error(n)
		}
	}
	for _, name := range []string{strings.Repeat("A", 64), strings.Repeat("é", 64), "\U0001f600", "a/b"} {
		if !Right(api.Known{Kind: 3, T: api.Type{Dims: 4, Name: name}}) {
			t.Errorf("%q", name)
		}
	}
	for _, k := range wrongKnowns() {
		if Right(k) {
			t.Errorf("%+.90v", k)
		}
	}
}

func TestT71Of(t *testing.T) {
	if k := Of(api.Type{}); k != known("int") {
		t.Error(k)
	}
	for _, s := range strings.Fields("A Object I nowhere [ [[[[ [A [[[[A") {
		if k := Of(typ(s)); k != ref(s) || !Right(k) {
			t.Error(s, k)
		}
	}
	for _, a := range wrongTypes() {
		if k := Of(a); k != (api.Known{}) {
			t.Errorf("%+.90v: %+.90v", a, k)
		}
	}
}

// wantJoin holds the Join of two knowns, in both orders.
func wantJoin(t *testing.T, h *hier.Table, a, b, want api.Known) {
	t.Helper()
	for range 2 {
		if k := Join(h, a, b); k != want {
			t.Errorf("%+.90v and %+.90v: %+.90v; want %v", a, b, k, want)
		}
		a, b = b, a
	}
}

func wantBelow(t *testing.T, h *hier.Table, a, b api.Known, want bool) {
	t.Helper()
	if Below(h, a, b) != want {
		t.Errorf("%+.90v and %+.90v: want %v", a, b, want)
	}
}

// one is a known of each kind, and two of those of which there are several.
const one = "top int null this new3 new4 A [B"

func TestT72Kinds(t *testing.T) {
	h := sample(t)
	for i, row := range []string{
		"top top top top top top top top",
		"top int top top top top top top",
		"top top null top top top A [B",
		"top top top this top top top top",
		"top top top top new3 top top top",
		"top top top top top new4 top top",
		"top top A top top top A Object",
		"top top [B top top top Object [B",
	} {
		for j, want := range knowns(row) {
			wantJoin(t, h, knowns(one)[i], knowns(one)[j], want)
		}
	}
}

func TestT73Kinds(t *testing.T) {
	h := sample(t)
	for i, row := range []string{
		"1 0 0 0 0 0 0 0",
		"1 1 0 0 0 0 0 0",
		"1 0 1 0 0 0 1 1",
		"1 0 0 1 0 0 0 0",
		"1 0 0 0 1 0 0 0",
		"1 0 0 0 0 1 0 0",
		"1 0 0 0 0 0 1 0",
		"1 0 0 0 0 0 0 1",
	} {
		for j, want := range strings.Fields(row) {
			wantBelow(t, h, knowns(one)[i], knowns(one)[j], want == "1")
		}
	}
}

func TestT72References(t *testing.T) {
	h := sample(t)
	for _, c := range []struct{ a, b, want string }{
		{"A", "A", "A"}, {"B", "A", "A"}, {"B", "C", "A"}, {"D", "B", "A"}, {"D", "C", "C"}, {"A", "String", "Object"}, {"A", "Object", "Object"},
		{"Null", "Arith", "Throwable"}, {"E", "Arith", "Throwable"}, {"E", "Null", "Null"}, {"I", "I", "I"}, {"B", "I", "Object"}, {"I", "J", "Object"}, {"E", "C", "Object"},
		{"[B", "[C", "[A"}, {"[[B", "[[A", "[[A"}, {"[", "[", "["}, {"[", "[A", "Object"}, {"[", "[[", "Object"}, {"[A", "[[", "[Object"}, {"[[A", "[[", "[Object"}, {"[B", "[I", "[Object"}, {"[B", "B", "Object"},
		{"[[[[D", "[[[[B", "[[[[A"}, {"[[[[", "[[[", "[[Object"},
		{"null", "[", "["}, {"null", "I", "I"}, {"null", "[[[[A", "[[[[A"},
		{"nowhere", "nowhere", "nowhere"}, {"[nowhere", "[nowhere", "[nowhere"}, {"null", "nowhere", "nowhere"},
		{"nowhere", "A", "top"}, {"nowhere", "Object", "top"}, {"nowhere", "[nowhere", "top"}, {"[nowhere", "Object", "top"}, {"[nowhere", "[A", "top"}, {"[nowhere", "[", "top"},
		{"Object", "new3", "top"}, {"Object", "this", "top"}, {"Object", "int", "top"}, {"[", "int", "top"},
	} {
		wantJoin(t, h, known(c.a), known(c.b), known(c.want))
	}
}

func TestT73References(t *testing.T) {
	h := sample(t)
	for _, c := range []struct{ a, above, other string }{
		{"A", "A Object top", "B I [A nowhere int null this new3"},
		{"B", "B A J I Object top", "C D K [B nowhere"},
		{"D", "D C A I K Object top", "B J"},
		{"J", "J I Object top", "K B"},
		{"E", "E Null Throwable I Object top", "Arith"},
		{"Object", "Object top", "A I [ [Object"},
		{"[", "[ Object top", "[Object [[ [A int"},
		{"[[", "[[ [Object Object top", "[ [[Object [[["},
		{"[B", "[B [A [J [I [Object Object top", "B A [C [[B [ null"},
		{"[[[[B", "[[[[A [[[[Object [[[Object [[Object [Object Object top", "[[[[ [[[A"},
		{"null", "null A I Object nowhere [ [[[[A [nowhere top", "int this new3"},
		{"nowhere", "nowhere top", "Object A I [nowhere null"},
		{"[nowhere", "[nowhere top", "Object [Object nowhere [A"},
		{"new3", "new3 top", "new4 Object A null this int"},
		{"this", "this top", "Object A null new3 int"},
		{"int", "int top", "Object [ null this"},
		{"top", "top", "Object int null this new3"},
	} {
		for _, b := range knowns(c.above) {
			wantBelow(t, h, known(c.a), b, true)
		}
		for _, b := range knowns(c.other) {
			wantBelow(t, h, known(c.a), b, false)
		}
	}
}

func TestT72T73Wrong(t *testing.T) {
	h := sample(t)
	bad := wrongKnowns()
	for i, a := range bad {
		for _, b := range append(knowns(one), newAt(0), ref("Object"), ref("["), a, bad[i/2], bad[0]) {
			wantJoin(t, h, a, b, known("top"))
			wantBelow(t, h, a, b, false)
			wantBelow(t, h, b, a, false)
		}
	}
}

// Which classes there are is the given table's matter, also one's that nothing made.
func TestT72T73Tables(t *testing.T) {
	h := sample(t)
	more, e, _ := h.Open([]api.File{file(0, "F", "B")})
	if e != api.OK {
		t.Fatal(e)
	}
	wantJoin(t, more, ref("F"), ref("C"), ref("A"))
	wantBelow(t, more, ref("F"), ref("I"), true)
	for _, x := range []*hier.Table{h, new(hier.Table)} {
		wantJoin(t, x, ref("F"), ref("A"), known("top"))
		wantBelow(t, x, ref("F"), ref("A"), false)
		wantBelow(t, x, ref("F"), ref("Object"), false)
		wantJoin(t, x, ref("F"), ref("F"), ref("F"))
		wantBelow(t, x, ref("F"), ref("F"), true)
		wantJoin(t, x, ref("F"), known("null"), ref("F"))
		wantBelow(t, x, known("null"), ref("F"), true)
	}
}

func TestT73Fits(t *testing.T) {
	h := sample(t)
	for _, c := range []struct{ a, fits, other string }{
		{"int", "int", "A Object ["},
		{"null", "A Object I [ [[A nowhere", "int"},
		{"B", "B A J I Object", "int C [B nowhere [Object"},
		{"[B", "[B [A [I [Object Object", "B int ["},
		{"[", "[ Object", "int [[ [Object"},
		{"nowhere", "nowhere", "Object int A"},
		{"top", "", "int A Object ["}, {"this", "", "int A Object ["}, {"new3", "", "int A Object ["},
	} {
		for _, b := range knowns(c.fits) {
			if !Fits(h, known(c.a), b.T) {
				t.Errorf("%q does not fit %v", c.a, b.T)
			}
		}
		for _, b := range knowns(c.other) {
			if Fits(h, known(c.a), b.T) {
				t.Errorf("%q fits %v", c.a, b.T)
			}
		}
	}
	for _, k := range knowns(one) {
		for _, a := range wrongTypes() {
			if Fits(h, k, a) {
				t.Errorf("%v fits %+.90v", k, a)
			}
		}
	}
	for _, k := range wrongKnowns() {
		for _, a := range append(wrongTypes()[:3], k.T, typ(""), typ("A"), typ("["), typ("Object")) {
			if Fits(h, k, a) {
				t.Errorf("%+.90v fits %+.90v", k, a)
			}
		}
	}
}

// The document's examples, with the table of no files.
func TestExamples(t *testing.T) {
	h, _, _ := hier.New(nil)
	for _, c := range []struct{ a, b, want string }{
		{"null", "String", "String"}, {"Null", "Arith", "Throwable"}, {"int", "null", "top"}, {"new3", "new3", "new3"}, {"new3", "new4", "top"},
	} {
		wantJoin(t, h, known(c.a), known(c.b), known(c.want))
	}
	wantBelow(t, h, known("null"), ref("String"), true)
	wantBelow(t, h, ref("Null"), ref("Object"), true)
	wantBelow(t, h, known("int"), known("top"), true)
	wantBelow(t, h, newAt(3), ref("Object"), false)
	if Right(newAt(-1)) || Of(api.Type{Dims: 9}) != known("top") || Fits(h, known("int"), api.Type{Dims: 9}) {
		t.Error("Right, Of, Fits")
	}
}

// all are valid knowns of each kind, with REFs of the classes of a table and of int.
func all(h *hier.Table, maxDims int) []api.Known {
	l := append(knowns("top int null this new3 new4"), newAt(0), newAt(math.MaxInt))
	for dims := range maxDims + 1 {
		for _, name := range append(h.Names(), "") {
			if k := (api.Known{Kind: 3, T: api.Type{Dims: dims, Name: name}}); k != (api.Known{Kind: 3}) {
				l = append(l, k)
			}
		}
	}
	return l
}

func TestT75Pairs(t *testing.T) {
	h := sample(t)
	l := all(h, 4)
	for _, a := range l {
		if !Right(a) || Join(h, a, a) != a || !Below(h, a, a) {
			t.Error(a)
		}
		for _, b := range l {
			k := Join(h, a, b)
			if !Right(k) || k != Join(h, b, a) || !Below(h, a, k) || !Below(h, b, k) {
				t.Error(a, b, k)
			}
			lub, ok := h.Lub(a.T, b.T)
			if refs := a.Kind == 3 && b.Kind == 3; refs && (!ok || k.T != lub || Below(h, a, b) != h.Sub(a.T, b.T)) {
				t.Error(a, b, k, lub)
			}
			if a != b && Below(h, a, b) && Below(h, b, a) {
				t.Error("both below the other", a, b)
			}
		}
	}
}

func TestT75Triples(t *testing.T) {
	h := sample(t)
	l := all(h, 2)
	for _, a := range l {
		for _, b := range l {
			ab, below := Join(h, a, b), Below(h, a, b)
			for _, c := range l {
				if Join(h, ab, c) != Join(h, a, Join(h, b, c)) {
					t.Fatal("Join is not associative", a, b, c)
				}
				if below && Below(h, b, c) && !Below(h, a, c) {
					t.Fatal("Below is not transitive", a, b, c)
				}
			}
		}
	}
}
