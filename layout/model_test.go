package layout

import (
	"maps"
	"math/rand"
	"reflect"
	"slices"
	"strconv"
	"strings"
	"testing"

	"crucible/api"
	"crucible/hier"
)

// model is the specs of tables that were opened from one another, of which each question is answered anew by the document's words.
type model struct {
	tables [][]spec
	by     map[string]spec // of all classes, by their names
}

func noModel() model {
	m := model{by: map[string]spec{}}
	for i, name := range builtinNames() {
		s := spec{name: name}
		switch {
		case i > 4:
			s.super = "Throwable"
		case i > 0:
			s.super = "Object"
		}
		m.by[name] = s
	}
	return m
}

func (m model) open(l []spec) model {
	n := model{tables: append(m.tables[:len(m.tables):len(m.tables)], l), by: maps.Clone(m.by)}
	for _, s := range l {
		n.by[s.name] = s
	}
	return n
}

// names are those of all classes.
func (m model) names() []string {
	l := builtinNames()
	for _, s := range slices.Concat(m.tables...) {
		l = append(l, s.name)
	}
	return l
}

// own are the fields that a class declares, static or not.
func (m model) own(name string, static bool) []Slot {
	var l []Slot
	for _, f := range m.by[name].fields {
		if f.static == static {
			l = append(l, Slot{Class: name, Name: f.name, T: f.t})
		}
	}
	return l
}

func (m model) slots(name string) []Slot {
	s, ok := m.by[name]
	if !ok {
		return nil
	}
	return append(m.slots(s.super), m.own(name, false)...)
}

// declared is where a class itself has a field.
func (m model) declared(class, name string, t api.Type) (place, bool) {
	wanted := Slot{Class: class, Name: name, T: t}
	if i := slices.Index(m.own(class, false), wanted); i >= 0 {
		return place{class, len(m.slots(m.by[class].super)) + i, false}, true
	}
	if i := slices.Index(m.own(class, true), wanted); i >= 0 {
		return place{class, i, true}, true
	}
	return place{}, false
}

func (m model) field(class, name string, t api.Type) (place, bool) {
	s, ok := m.by[class]
	if !ok {
		return place{}, false
	}
	if p, ok := m.declared(class, name, t); ok {
		return p, true
	}
	for _, i := range s.ifaces {
		if p, ok := m.field(i, name, t); ok {
			return p, true
		}
	}
	return m.field(s.super, name, t)
}

// fault is what Make is to answer for the files of specs, whose table is that of m; up is the model of a layout.
func (m model) fault(l []spec, up model) (api.Errno, int) {
	above, own := m.tables[:len(m.tables)-1], m.tables[len(m.tables)-1]
	if len(l) != len(own) {
		return api.ErrArg, 0
	}
	for at, s := range l {
		if s.flags == 1 || s.name != own[at].name {
			return api.ErrArg, 0
		}
	}
	for _, s := range slices.Concat(above...) {
		if _, ok := up.by[s.name]; !ok {
			return api.ErrArg, 0
		}
	}
	for at, s := range l {
		for _, f := range append(m.own(s.name, false), m.own(s.name, true)...) {
			if _, ok := m.by[f.T.Name]; !ok && f.T.Name != "" {
				return api.ErrType, at
			}
		}
		if len(m.slots(s.name)) > 200 || len(m.own(s.name, true)) > 200 {
			return api.ErrMany, at
		}
	}
	return api.OK, 0
}

// checkSame holds a layout against a model.
func checkSame(t *testing.T, x *Layout, m model) {
	t.Helper()
	for _, name := range m.names() {
		c, ok := x.Class(name)
		if !ok || c.Name != name || !slices.Equal(c.Slots, m.slots(name)) || !slices.Equal(c.Statics, m.own(name, true)) {
			t.Fatalf("Class(%q): %v, %v\n%v", name, c, ok, m)
		}
		for i, s := range c.Slots {
			if len(c.Refs) != len(c.Slots) || c.Refs[i] != (s.T != api.Type{}) {
				t.Fatal(name, c)
			}
		}
		for _, f := range []string{"x", "y", "z", "u", "g3"} {
			for _, d := range []string{"", "[", "A", "Object", "p1"} {
				p, ok := m.field(name, f, typ(d))
				of, at, static, found := x.Field(name, f, typ(d))
				if (place{of, at, static}) != p || found != ok {
					t.Fatalf("Field(%q, %q, %q): %q, %d, %v, %v; want %v, %v\n%v", name, f, d, of, at, static, found, p, ok, m)
				}
			}
		}
	}
	wantNoClass(t, x, "nowhere")
	wantField(t, x, "nowhere", "x", "", "")
}

// checkLaws holds a layout against what follows of it, by the chains of its table.
func checkLaws(t *testing.T, x seen, m model) {
	t.Helper()
	for _, name := range x.h.Names() {
		c, _ := x.l.Class(name)
		chain := x.h.Chain(name)
		for i, above := range chain {
			a, ok := x.l.Class(above)
			if !ok || len(a.Slots) > len(c.Slots) || !slices.Equal(a.Slots, c.Slots[:len(a.Slots)]) || !slices.Equal(a.Refs, c.Refs[:len(a.Refs)]) {
				t.Fatal("the Slots do not begin with those above", c, a)
			}
			for _, s := range append(m.own(above, false), m.own(above, true)...) {
				of, at, static, ok := x.l.Field(name, s.Name, s.T)
				if !ok || of != above && !m.between(x.h, chain[:i], of, s) {
					t.Fatal("not found", name, s, of, ok)
				}
				d, _ := x.l.Class(of)
				l := d.Slots
				if static {
					l = d.Statics
				}
				if at >= len(l) || l[at] != (Slot{Class: of, Name: s.Name, T: s.T}) {
					t.Fatal("not there", name, s, of, at, static)
				}
			}
		}
	}
}

// between tells whether a class that declares a field is one of those below, or an interface above one of them.
func (m model) between(h *hier.Table, below []string, class string, s Slot) bool {
	_, declares := m.declared(class, s.Name, s.T)
	c, _ := h.Find(class)
	return declares && slices.ContainsFunc(below, func(b string) bool {
		return b == class || c.Iface && h.Sub(typ(b), typ(class))
	})
}

// chance is a source of numbers below a bound.
type chance func(n int) int

func (c chance) of(l ...string) string { return l[c(len(l))] }

// fields are random ones of a class; few of them have a type that is not there.
func (c chance) fields(names []string, ifaceFields bool) string {
	var l []string
	add := func(name, d string) {
		if ifaceFields || c(3) == 0 {
			name = "*" + name
		}
		l = append(l, name+" "+d)
	}
	for _, name := range []string{"x", "y", "z", "u"}[:c(5)] {
		if c(3) == 0 {
			continue
		}
		d := c.of("I", "I", "[I", "LA;", "LObject;", "[[Lp1;", "Lp1;", "L"+names[c(len(names))]+";")
		if c(150) == 0 {
			d = "[Lnowhere;"
		}
		add(name, d)
	}
	if c(9) == 0 {
		for i := range 60 + c(130) {
			l = append(l, "g"+strconv.Itoa(i)+" I")
			if ifaceFields {
				l[len(l)-1] = "*" + l[len(l)-1]
			}
		}
	}
	if c(2) == 0 {
		slices.Reverse(l)
	}
	return strings.Join(l, ",")
}

// specs are random classes that may be opened from those of a model; the first one of all is A.
func (c chance) specs(m model, prefix string) []spec {
	classes, ifaces := []string{"Object", "Deep"}, []string{}
	for _, s := range slices.Concat(m.tables...) {
		if s.flags == 3 {
			ifaces = append(ifaces, s.name)
		} else {
			classes = append(classes, s.name)
		}
	}
	var l []spec
	var names []string
	for i := range c(9) {
		names = append(names, prefix+strconv.Itoa(i))
	}
	if len(m.tables) == 0 {
		names = append([]string{"A"}, names...)
	}
	every := slices.Concat(m.names(), names)
	for _, name := range names {
		s := spec{flags: c(2) * 2, name: name, super: classes[max(len(classes)-1-c(4), 0)]}
		for range min(c(4), len(ifaces)) {
			s.ifaces = append(s.ifaces, ifaces[c(len(ifaces))])
		}
		if c(3) == 0 {
			s.flags, s.super = 3, "Object"
			ifaces = append(ifaces, name)
		} else {
			classes = append(classes, name)
		}
		s.fields = fieldSpecs(c.fields(every, s.flags == 3))
		l = append(l, s)
	}
	for i := range l {
		j := c(i + 1)
		l[i], l[j] = l[j], l[i]
	}
	return l
}

// otherFiles makes of the specs of a table some that may not be those of its classes.
func (c chance) otherFiles(l []spec) []spec {
	l = slices.Clone(l)
	if len(l) == 0 || c(8) == 0 {
		return append(l, plain("more", "Object", ""))
	}
	i := c(len(l))
	switch c(5) {
	case 0:
		return slices.Delete(l, i, i+1)
	case 1:
		l[i].flags = 1
	case 2:
		l[i].name = c.of("Object", "nowhere", "A", "p1", l[0].name)
	case 3:
		j := c(len(l))
		l[i], l[j] = l[j], l[i]
	}
	return l
}

// play opens tables from one another, and holds what Make answers for each against a model. It answers the last error.
func (c chance) play(t *testing.T) api.Errno {
	m := noModel()
	var x seen
	for _, prefix := range []string{"p", "q", "r"}[:1+c(3)] {
		l := c.specs(m, prefix)
		h := tableOf(t, x.h, l...)
		next := m.open(l)
		up, upModel := x.l, m
		if c(25) == 0 {
			up, upModel = nil, model{}
		}
		if c(8) == 0 {
			l = c.otherFiles(l)
		}
		files := filesOf(l)
		got, e, at := Make(h, files, up)
		wantE, wantAt := next.fault(l, upModel)
		if e != wantE || at != wantAt || (got == nil) != (e != api.OK) {
			t.Fatalf("%v, %d; want %v, %d\n%v\n%v", e, at, wantE, wantAt, next, l)
		}
		if !reflect.DeepEqual(files, filesOf(l)) {
			t.Fatal("files were changed")
		}
		if e != api.OK {
			return e
		}
		m, x = next, seen{h, got}
		checkSame(t, x.l, m)
		checkLaws(t, x, m)
	}
	return api.OK
}

func TestY3Random(t *testing.T) {
	r := rand.New(rand.NewSource(13))
	count := map[api.Errno]int{}
	for range 700 {
		count[chance(r.Intn).play(t)]++
	}
	for _, e := range []api.Errno{api.OK, api.ErrArg, api.ErrType, api.ErrMany} {
		if count[e] < 10 {
			t.Error("too few", e, count)
		}
	}
}

// byBytes takes its numbers from bytes, and zeros behind their end.
func byBytes(b string) chance {
	return func(n int) int {
		if b == "" {
			return 0
		}
		i := int(b[0]) % n
		b = b[1:]
		return i
	}
}

func FuzzLayouts(f *testing.F) {
	f.Add("")
	f.Add("\x02\x05\x01\x02\x03\x04\x01\x01\x01\x02\x03\x04\x05\x06\x07\x08\x01\x03\x04\x05\x06\x07\x08\x09")
	f.Fuzz(func(t *testing.T, b string) { byBytes(b).play(t) })
}
