package hier

import (
	"math/rand"
	"reflect"
	"slices"
	"testing"

	"crucible/api"
)

// model is a table as the document's words tell it, found out anew at each question.
type model struct {
	names []string
	by    map[string]Class // Own is that of the last table opened
}

func builtinModel() model {
	m := model{names: builtinNames(), by: map[string]Class{}}
	for i, name := range m.names {
		c := Class{Name: name, At: -1}
		switch {
		case i > 4:
			c.Super = "Throwable"
		case i > 0:
			c.Super = "Object"
		}
		m.by[name] = c
	}
	return m
}

func (m model) open(l []spec) (model, api.Errno, int) {
	n := model{names: slices.Clone(m.names), by: map[string]Class{}}
	for name, c := range m.by {
		c.Own = false
		n.by[name] = c
	}
	if len(l) > 64 {
		return n, api.ErrMany, 0
	}
	for at, s := range l {
		if s.flags == 1 {
			return n, api.ErrFlags, at
		}
		if _, ok := n.by[s.name]; ok {
			return n, api.ErrTwice, at
		}
		n.names = append(n.names, s.name)
		n.by[s.name] = Class{Name: s.name, Super: s.super, Ifaces: s.ifaces, Iface: s.flags == 3, Abstract: s.flags >= 2, Own: true, At: at}
	}
	for at, s := range l {
		for _, up := range append([]string{s.super}, s.ifaces...) {
			if _, ok := n.by[up]; !ok {
				return n, api.ErrClass, at
			}
		}
		sealed := s.super == "String" || s.super == "Weak" || s.super == "Loader"
		if n.by[s.super].Iface || sealed || s.flags == 3 && s.super != "Object" {
			return n, api.ErrKind, at
		}
		for _, i := range s.ifaces {
			if !n.by[i].Iface {
				return n, api.ErrKind, at
			}
		}
	}
	for at, s := range l {
		if n.above(s.name)[s.name] {
			return n, api.ErrCycle, at
		}
	}
	return n, api.OK, 0
}

// above is which classes are above a class.
func (m model) above(name string) map[string]bool {
	found := map[string]bool{}
	var walk func(name string)
	walk = func(name string) {
		c := m.by[name]
		for _, up := range append([]string{c.Super}, c.Ifaces...) {
			if up != "" && !found[up] {
				found[up] = true
				walk(up)
			}
		}
	}
	walk(name)
	return found
}

func (m model) chain(name string) []string {
	var l []string
	for c, ok := m.by[name]; ok; c, ok = m.by[c.Super] {
		l = append(l, c.Name)
	}
	return l
}

func (m model) has(a api.Type) bool {
	_, ok := m.by[a.Name]
	return a.Dims >= 0 && a.Dims <= 4 && (ok || a.Name == "")
}

func (m model) sub(a, b api.Type) bool {
	int0 := api.Type{}
	switch {
	case !m.has(a) || !m.has(b):
		return false
	case a == b:
		return true
	case a == int0 || b == int0:
		return false
	case b == typ("Object"):
		return true
	case a.Dims > 0 && b.Dims > 0:
		return m.sub(api.Type{Dims: a.Dims - 1, Name: a.Name}, api.Type{Dims: b.Dims - 1, Name: b.Name})
	case a.Dims == 0 && b.Dims == 0:
		return m.above(a.Name)[b.Name]
	}
	return false
}

func (m model) lub(a, b api.Type) (api.Type, bool) {
	int0 := api.Type{}
	ea, eb := api.Type{Dims: a.Dims - 1, Name: a.Name}, api.Type{Dims: b.Dims - 1, Name: b.Name}
	switch {
	case !m.has(a) || !m.has(b) || a == int0 || b == int0:
		return api.Type{}, false
	case a == b:
		return a, true
	case a.Dims > 0 && b.Dims > 0 && ea != int0 && eb != int0:
		l, _ := m.lub(ea, eb)
		return api.Type{Dims: l.Dims + 1, Name: l.Name}, true
	case a.Dims == 0 && b.Dims == 0 && !m.by[a.Name].Iface && !m.by[b.Name].Iface:
		other := m.chain(b.Name)
		for _, name := range m.chain(a.Name) {
			if slices.Contains(other, name) {
				return typ(name), true
			}
		}
	}
	return typ("Object"), true
}

// types are the types of all classes of a model, of int, and of a class that it has not.
func (m model) types(maxDims int) []api.Type {
	var l []api.Type
	for dims := range maxDims + 1 {
		for _, name := range append(slices.Clone(m.names), "", "nowhere") {
			l = append(l, api.Type{Dims: dims, Name: name})
		}
	}
	return l
}

// checkSame holds a table against a model.
func checkSame(t *testing.T, x *Table, m model) {
	t.Helper()
	if l := x.Names(); !slices.Equal(l, m.names) {
		t.Fatalf("Names: %q; want %q", l, m.names)
	}
	for _, name := range m.names {
		wantFind(t, x, m.by[name])
		wantChain(t, x, name, m.chain(name)...)
	}
	l := m.types(1)
	for _, a := range l {
		for _, b := range l {
			if got, want := x.Sub(a, b), m.sub(a, b); got != want {
				t.Fatalf("Sub(%v, %v): %v", a, b, got)
			}
			got, ok := x.Lub(a, b)
			if want, wantOK := m.lub(a, b); got != want || ok != wantOK {
				t.Fatalf("Lub(%v, %v): %v, %v; want %v, %v", a, b, got, ok, want, wantOK)
			}
		}
	}
}

// checkLaws holds Sub and Lub against what follows of them, for some triples of types.
func checkLaws(t *testing.T, r *rand.Rand, x *Table, l []api.Type) {
	t.Helper()
	for range 3000 {
		a, b, c := l[r.Intn(len(l))], l[r.Intn(len(l))], l[r.Intn(len(l))]
		if x.Sub(a, b) && x.Sub(b, c) && !x.Sub(a, c) {
			t.Fatal("Sub is not transitive", a, b, c)
		}
		ab, ok := x.Lub(a, b)
		ba, _ := x.Lub(b, a)
		aa, _ := x.Lub(a, a)
		if ab != ba || ok && (aa != a || !x.Sub(a, a) || !x.Sub(a, ab) || !x.Sub(b, ab)) {
			t.Fatal("Lub is not commutative, or not above", a, b, ab, ba, aa)
		}
		bc, okc := x.Lub(b, c)
		l1, _ := x.Lub(ab, c)
		l2, _ := x.Lub(a, bc)
		if ok && okc && l1 != l2 {
			t.Fatal("Lub is not associative", a, b, c, l1, l2)
		}
		ca, _ := x.Find(a.Name)
		cb, _ := x.Find(b.Name)
		cc, _ := x.Find(c.Name)
		classes := a.Dims+b.Dims+c.Dims == 0 && ok && okc && !ca.Iface && !cb.Iface && !cc.Iface
		if classes && x.Sub(a, c) && x.Sub(b, c) && !x.Sub(ab, c) {
			t.Fatal("Lub is not the least", a, b, c, ab)
		}
	}
}

// rightSpecs are classes that may be opened from a table of a model, in an order that tells nothing of which one is above which.
func rightSpecs(r *rand.Rand, m model, prefix string, n int) []spec {
	var classes, ifaces []string
	for _, name := range m.names {
		switch {
		case m.by[name].Iface:
			ifaces = append(ifaces, name)
		case name != "String" && name != "Weak" && name != "Loader":
			classes = append(classes, name)
		}
	}
	var l []spec
	for i := range n {
		s := spec{flags: r.Intn(2) * 2, name: prefix + string(rune('a'+i)), super: classes[len(classes)-1-r.Intn(min(len(classes), 5))]}
		for range min(r.Intn(4), len(ifaces)) {
			s.ifaces = append(s.ifaces, ifaces[r.Intn(len(ifaces))])
		}
		if r.Intn(3) == 0 {
			s.flags, s.super = 3, "Object"
			ifaces = append(ifaces, s.name)
		} else {
			classes = append(classes, s.name)
		}
		l = append(l, s)
	}
	r.Shuffle(len(l), func(i, j int) { l[i], l[j] = l[j], l[i] })
	return l
}

func TestH5Random(t *testing.T) {
	r := rand.New(rand.NewSource(6))
	for range 40 {
		m, e, at := builtinModel(), api.OK, 0
		var x *Table
		for _, prefix := range []string{"p", "q", "r"}[:1+r.Intn(3)] {
			l := rightSpecs(r, m, prefix, r.Intn(14))
			if m, e, at = m.open(l); e != api.OK {
				t.Fatal(e, at)
			}
			x = mustOpen(t, x, l...)
			checkSame(t, x, m)
			checkLaws(t, r, x, m.types(4))
		}
	}
}

// specsOf makes classes of bytes: right ones and wrong ones, of few names.
func specsOf(b string) []spec {
	names := append(builtinNames()[:6], "A", "B", "C", "D", "E", "F", "G", "H", "", "nowhere")
	var l []spec
	for ; len(b) >= 4; b = b[4:] {
		s := spec{flags: []int{0, 0, 2, 3, 3, 3, 0, 1}[b[0]%8], name: names[6+b[1]%8], super: names[b[2]%16]}
		if s.flags == 3 && b[2] < 128 {
			s.super = "Object"
		}
		for i := range int(b[3] % 4) {
			s.ifaces = append(s.ifaces, append(names[6:14:14], "nowhere")[(int(b[3]/4)+5*i)%9])
		}
		l = append(l, s)
	}
	return l
}

// playBoth opens a table of some bytes from one of others, and a model likewise.
func playBoth(t *testing.T, tables ...string) {
	m := builtinModel()
	var x *Table
	for _, b := range tables {
		l := specsOf(b)
		files := filesOf(l)
		var y *Table
		var e api.Errno
		var at int
		if x == nil {
			y, e, at = New(files)
		} else {
			y, e, at = x.Open(files)
		}
		if !reflect.DeepEqual(files, filesOf(l)) {
			t.Fatal("files were changed")
		}
		n, wantE, wantAt := m.open(l)
		if e != wantE || at != wantAt || (y == nil) != (e != api.OK) {
			t.Fatalf("%v: %v, %d, %d; want %d, %d", l, y, e, at, wantE, wantAt)
		}
		if x != nil {
			checkSame(t, x, m)
		}
		if e == api.OK {
			checkSame(t, y, n)
			x, m = y, n
		}
	}
}

func FuzzFiles(f *testing.F) {
	f.Add("\x00\x00\x00\x00", "\x03\x01\x00\x00\x00\x02\x06\x05")
	f.Add("\x00\x00\x07\x00\x00\x01\x06\x00", "\x03\x01\x00\x05")
	f.Fuzz(func(t *testing.T, first, second string) { playBoth(t, first, second) })
}

// Bytes that lead to each error, and often enough to none.
func TestH1Random(t *testing.T) {
	r := rand.New(rand.NewSource(7))
	bytes := func() string {
		b := make([]byte, 4*r.Intn(5))
		r.Read(b)
		return string(b)
	}
	count := map[api.Errno]int{}
	for range 4000 {
		b := bytes()
		_, e, _ := builtinModel().open(specsOf(b))
		count[e]++
		if e != api.OK || count[e] < 300 {
			playBoth(t, b, bytes())
		}
	}
	for _, e := range []api.Errno{api.OK, api.ErrFlags, api.ErrTwice, api.ErrClass, api.ErrKind, api.ErrCycle} {
		if count[e] < 10 {
			t.Error("too few", e, count)
		}
	}
}
