package refmap

import (
	"math"
	"slices"
	"strings"
	"testing"

	"crucible/api"
	"crucible/hier"
	"crucible/verify"
)

// bools is a list of a short form: 1 for true, 0 for false.
func bools(s string) []bool {
	var l []bool
	for _, c := range s {
		l = append(l, c == '1')
	}
	return l
}

// digits is the short form of a list.
func digits(l []bool) string {
	s := make([]byte, len(l))
	for i, b := range l {
		s[i] = '0'
		if b {
			s[i] = '1'
		}
	}
	return string(s)
}

// show is a map in short form: the locals, a bar and the stack.
func show(m Map) string { return digits(m.Locals) + "|" + digits(m.Stack) }

func mapOf(s string) Map {
	locals, stack, _ := strings.Cut(s, "|")
	return Map{Locals: bools(locals), Stack: bools(stack)}
}

// showAll are maps in short form, parted by spaces.
func showAll(l []Map) string {
	var s []string
	for _, m := range l {
		s = append(s, show(m))
	}
	return strings.Join(s, " ")
}

func mapsOf(s string) []Map {
	var l []Map
	for _, f := range strings.Fields(s) {
		l = append(l, mapOf(f))
	}
	return l
}

var (
	top    = api.Known{}
	number = api.Known{Kind: 1}
	null   = api.Known{Kind: 2}
	this   = api.Known{Kind: 5}
)

func ref(dims int, name string) api.Known {
	return api.Known{Kind: 3, T: api.Type{Dims: dims, Name: name}}
}

func newAt(n int) api.Known { return api.Known{Kind: 4, N: n} }

func TestR1Of(t *testing.T) {
	for _, c := range []struct {
		locals, stack []api.Known
		want          string
	}{
		{nil, nil, "|"},
		{[]api.Known{number}, nil, "0|"},
		{nil, []api.Known{number}, "|0"},
		{[]api.Known{number, null, top}, []api.Known{newAt(3)}, "010|1"},
		{[]api.Known{top, number, null, ref(0, "A"), newAt(0), this}, []api.Known{this, newAt(4095), ref(0, "Object"), null, number, top}, "001111|111100"},
		{[]api.Known{ref(1, ""), ref(4, ""), ref(2, "A"), ref(0, "nowhere")}, []api.Known{newAt(math.MaxInt), number, newAt(1), newAt(2)}, "1111|1011"},
		{slices.Repeat([]api.Known{null, top, number}, 30000), slices.Repeat([]api.Known{this, number}, 70000), strings.Repeat("100", 30000) + "|" + strings.Repeat("10", 70000)},
	} {
		if got := show(Of(api.State{Locals: c.locals, Stack: c.stack})); got != c.want {
			t.Errorf("%.90v|%.90v: %.90s; want %.90s", c.locals, c.stack, got, c.want)
		}
	}
}

// No other number of a kind is one of a reference.
func TestR1OfWrong(t *testing.T) {
	for _, kind := range []int{math.MinInt, -1 << 32, -5, -4, -3, -2, -1, 6, 7, 8, 12, 255, 256, 258, 1 << 16, 1<<32 + 2, 1<<32 + 3, 1<<32 + 4, 1<<32 + 5, math.MaxInt} {
		k := []api.Known{{Kind: kind}, {Kind: kind, T: api.Type{Name: "A"}, N: 3}}
		if got := show(Of(api.State{Locals: k, Stack: k})); got != "00|00" {
			t.Error(kind, got)
		}
	}
	// Whatever else a value has: a number is none.
	k := []api.Known{{Kind: 1, T: api.Type{Name: "A"}}, {Kind: 0, T: api.Type{Dims: 1}}, {Kind: 1, N: 5}}
	if got := show(Of(api.State{Locals: k, Stack: k})); got != "000|000" {
		t.Error(got)
	}
}

func TestR1Make(t *testing.T) {
	s := []api.State{{Locals: []api.Known{null, number}}, {Stack: []api.Known{number, this}}, {Locals: []api.Known{top}, Stack: []api.Known{newAt(1)}}}
	l := []api.Instr{{Op: 99}, {Pc: -1}, {}}
	for _, c := range []struct {
		reached, want string
	}{
		{"111", "10| |01 0|1"}, {"000", "| | |"}, {"010", "| |01 |"}, {"101", "10| | 0|1"}, {"001", "| | 0|1"},
	} {
		if got := showAll(Make(verify.Typed{L: l, States: s, Reached: bools(c.reached)})); got != c.want {
			t.Errorf("%s: %s; want %s", c.reached, got, c.want)
		}
	}
	long := verify.Typed{L: make([]api.Instr, 5000), States: slices.Repeat(s[2:], 5000), Reached: slices.Repeat([]bool{true, false}, 2500)}
	if got := showAll(Make(long)); got != strings.Repeat("0|1 | ", 2499)+"0|1 |" {
		t.Errorf("%.90s", got)
	}
}

func TestR1MakeLengths(t *testing.T) {
	for i := range 4 {
		for j := range 4 {
			for k := range 4 {
				x := verify.Typed{L: make([]api.Instr, i), States: make([]api.State, j), Reached: slices.Repeat([]bool{true}, k)}
				for n := range x.States {
					x.States[n].Locals = []api.Known{null}
				}
				want := 0
				if i == j && j == k {
					want = i
				}
				if got := showAll(Make(x)); got != strings.TrimSpace(strings.Repeat("1| ", want)) {
					t.Errorf("%d instructions, %d states, %d reached: %s", i, j, k, got)
				}
			}
		}
	}
	if l := Make(verify.Typed{}); len(l) != 0 {
		t.Error(l)
	}
}

// fileOf is the file of the class A, of which each method has two elements on the stack and three locals.
// Constants: 2 is the class A, 4 Object, 7 Object.<init> ()V, 8 A.<init> ()V.
func fileOf(t *testing.T, name, desc string, flags int, body string) (*hier.Table, api.File) {
	t.Helper()
	f := api.File{This: 2, Super: 4, Pool: []api.Const{
		{Tag: 1, Text: "A"}, {Tag: 4, A: 1}, {Tag: 1, Text: "Object"}, {Tag: 4, A: 3}, {Tag: 1, Text: "<init>"}, {Tag: 1, Text: "()V"},
		{Tag: 6, A: 4, B: 5, C: 6}, {Tag: 6, A: 2, B: 5, C: 6}, {Tag: 1, Text: name}, {Tag: 1, Text: desc},
	}}
	f.Methods = []api.Member{{Flags: flags, Name: 9, Desc: 10, MaxStack: 2, MaxLocals: 3, Code: body}}
	if flags == 2 {
		f.Methods[0] = api.Member{Flags: flags, Name: 9, Desc: 10}
	}
	h, e, at := hier.New([]api.File{f})
	if e != api.OK {
		t.Fatal(e, at)
	}
	return h, f
}

// What is made of the typings of methods.
func TestR1Methods(t *testing.T) {
	for _, c := range []struct {
		name, desc string
		flags      int
		body, want string
	}{
		{"m", "()V", 1, "\x2c", "000|"},
		{"m", "(I[ILA;)V", 1, "\x2c", "011|"},
		{"m", "(I)V", 0, "\x2c", "100|"},
		{"m", "()V", 2, "", ""},
		// null, store 0, ret
		{"m", "()V", 1, "\x03\x05\x00\x2c", "000| 000|1 100|"},
		// goto 4, ret, ret: the second one is not reached
		{"m", "(LA;)V", 1, "\x14\x00\x04\x2c\x2c", "100| | 100|"},
		// load 0, spec Object.<init>, ret
		{"<init>", "()V", 0, "\x04\x00\x2b\x00\x07\x2c", "100| 100|1 100|"},
		// new A, dup, spec A.<init>, store 1, ret
		{"m", "(I)V", 1, "\x1f\x00\x02\x07\x2b\x00\x08\x05\x01\x2c", "000| 000|1 000|11 000|1 010|"},
		// load 0, ifeq 9, null, goto 12, nop, null, store 1, ret: the nop is not reached
		{"m", "(II)V", 1, "\x04\x00\x15\x00\x07\x03\x14\x00\x05\x03\x00\x05\x01\x2c", "000| 000|0 000| 000|1 000| 000|1 000|1 010|"},
	} {
		h, f := fileOf(t, c.name, c.desc, c.flags, c.body)
		x, e, pc := verify.Method(h, f, 0)
		if e != api.OK {
			t.Fatalf("%x: %v, %d", c.body, e, pc)
		}
		if got := showAll(Make(x)); got != c.want {
			t.Errorf("%s%s %x: %s; want %s", c.name, c.desc, c.body, got, c.want)
		}
	}
}

func TestR2Pack(t *testing.T) {
	for _, c := range []struct{ maps, want string }{
		{"", "\x00\x00"},
		{"|", "\x00\x01\x00\x00"},
		{"010|1", "\x00\x01\x03\x01\x50"},
		{"1|", "\x00\x01\x01\x00\x80"},
		{"|1", "\x00\x01\x00\x01\x80"},
		{"0|", "\x00\x01\x01\x00\x00"},
		{"0000000|1", "\x00\x01\x07\x01\x01"},
		{"00000000|1", "\x00\x01\x08\x01\x00\x80"},
		{"1000000|01", "\x00\x01\x07\x02\x80\x80"},
		{"10000001|", "\x00\x01\x08\x00\x81"},
		{"|1100000000000011", "\x00\x01\x00\x10\xc0\x03"},
		{"|11000000000000111", "\x00\x01\x00\x11\xc0\x03\x80"},
		{"| 1|0 | 0|1", "\x00\x04\x00\x00\x01\x01\x80\x00\x00\x01\x01\x40"},
		{strings.Repeat("1", 64) + "|" + strings.Repeat("01", 32), "\x00\x01\x40\x40" + strings.Repeat("\xff", 8) + strings.Repeat("\x55", 8)},
		{strings.Repeat("| ", 255) + "1|", "\x01\x00" + strings.Repeat("\x00\x00", 255) + "\x01\x00\x80"},
		{strings.Repeat("| ", 4096), "\x10\x00" + strings.Repeat("\x00\x00", 4096)},
	} {
		b, e := Pack(mapsOf(c.maps))
		if b != c.want || e != api.OK {
			t.Errorf("Pack of %.90s: %.90x, %v; want %.90x", c.maps, b, e, c.want)
		}
		l, e := Unpack(c.want)
		if showAll(l) != strings.TrimSpace(c.maps) || e != api.OK {
			t.Errorf("Unpack of %.90x: %.90s, %v; want %.90s", c.want, showAll(l), e, c.maps)
		}
	}
}

func TestR2PackWrong(t *testing.T) {
	long := func(locals, stack int) Map { return Map{Locals: make([]bool, locals), Stack: make([]bool, stack)} }
	many := make([]Map, 4097)
	for _, c := range []struct {
		l    []Map
		want api.Errno
	}{
		{many, api.ErrMany}, {make([]Map, 4098), api.ErrMany}, {make([]Map, 65536), api.ErrMany}, {make([]Map, 65537), api.ErrMany},
		{append([]Map{long(65, 0)}, many...), api.ErrMany}, {append(many, long(0, 65)), api.ErrMany},
		{[]Map{long(65, 0)}, api.ErrLong}, {[]Map{long(0, 65)}, api.ErrLong}, {[]Map{long(65, 65)}, api.ErrLong}, {[]Map{long(64, 65)}, api.ErrLong}, {[]Map{long(65, 64)}, api.ErrLong},
		{[]Map{long(256, 0)}, api.ErrLong}, {[]Map{long(0, 256)}, api.ErrLong}, {[]Map{long(100000, 1)}, api.ErrLong},
		{[]Map{{}, long(3, 2), long(0, 65)}, api.ErrLong}, {append(slices.Clone(many[:4095]), long(65, 0)), api.ErrLong},
		{[]Map{long(64, 64), long(64, 0), long(0, 64)}, api.OK},
	} {
		b, e := Pack(c.l)
		if e != c.want || e != api.OK && b != "" {
			t.Errorf("%d maps: %.90x, %v; want %v", len(c.l), b, e, c.want)
		}
	}
}

func TestR2UnpackWrong(t *testing.T) {
	full := "\x40\x40" + strings.Repeat("\xff", 16)
	for _, c := range []struct {
		b    string
		want api.Errno
	}{
		{"", api.ErrShort}, {"\x00", api.ErrShort}, {"\x10", api.ErrShort}, {"\xff", api.ErrShort},
		{"\x10\x01", api.ErrMany}, {"\xff\xff", api.ErrMany}, {"\x10\x01" + strings.Repeat("\x00\x00", 4097), api.ErrMany}, {"\x11\x00\x41\x00", api.ErrMany},
		{"\x10\x00", api.ErrShort}, {"\x10\x00" + strings.Repeat("\x00\x00", 4095), api.ErrShort}, {"\x10\x00" + strings.Repeat("\x00\x00", 4095) + "\x00", api.ErrShort},
		{"\x10\x00" + strings.Repeat("\x00\x00", 4097), api.ErrRest}, {"\x10\x00" + strings.Repeat("\x00\x00", 4096) + "\x00", api.ErrRest},
		{"\x00\x01", api.ErrShort}, {"\x00\x01\x03", api.ErrShort}, {"\x00\x01\x00", api.ErrShort}, {"\x00\x01\x41", api.ErrShort},
		{"\x00\x01\x03\x01", api.ErrShort}, {"\x00\x01\x08\x01\xff", api.ErrShort}, {"\x00\x01\x40\x40" + full[2:17], api.ErrShort},
		{"\x00\x01\x41\x00", api.ErrLong}, {"\x00\x01\x00\x41", api.ErrLong}, {"\x00\x01\xff\x00", api.ErrLong}, {"\x00\x01\x00\xff", api.ErrLong}, {"\x00\x01\x80\x80", api.ErrLong}, {"\x00\x01\x40\x41" + strings.Repeat("\x00", 17), api.ErrLong},
		{"\x00\x01\x03\x01\x51", api.ErrForm}, {"\x00\x01\x03\x01\x58", api.ErrForm}, {"\x00\x01\x00\x01\x01", api.ErrForm}, {"\x00\x01\x09\x00\x00\x40", api.ErrForm},
		{"\x00\x00\x00", api.ErrRest}, {"\x00\x01\x03\x01\x50\x00", api.ErrRest}, {"\x00\x01\x00\x00\x00\x00", api.ErrRest}, {"\x00\x01" + full + "\x00", api.ErrRest},
		// Whichever comes first while the bytes are read.
		{"\x00\x02\x01\x00\x01\x41\x00", api.ErrForm}, {"\x00\x02\x41\x00\x01\x00\x01", api.ErrLong}, {"\x00\x02\x01\x00\x01", api.ErrForm}, {"\x00\x02\x01\x00\x80\x41\x00", api.ErrLong},
		{"\x00\x02\x01\x00\x80", api.ErrShort}, {"\x00\x02\x01\x00\x80\x01\x00\x81\x00", api.ErrForm}, {"\x00\x01\x01\x00\x81\x00", api.ErrForm}, {"\x00\x01\x41\x00\x00\x00", api.ErrLong},
	} {
		if l, e := Unpack(c.b); e != c.want || len(l) != 0 {
			t.Errorf("%.90x: %.90s, %v; want %v", c.b, showAll(l), e, c.want)
		}
	}
}

// Each unused bit, and each end that is too early.
func TestR2UnpackEach(t *testing.T) {
	for locals := range 66 {
		for _, stack := range []int{0, 1, 7, 8, 30, 64, 65} {
			bits := locals + stack
			b := []byte{0, 1, byte(locals), byte(stack)}
			b = append(b, make([]byte, (bits+7)/8)...)
			if locals > 64 || stack > 64 {
				wantError(t, b, api.ErrLong)
				continue
			}
			wantError(t, b, api.OK)
			wantError(t, append(slices.Clone(b), 0), api.ErrRest)
			for n := range b {
				wantError(t, b[:n], api.ErrShort)
			}
			for n := range len(b)*8 - 32 {
				b[4+n/8] = 128 >> (n % 8)
				if n < bits {
					wantError(t, b, api.OK)
				} else {
					wantError(t, b, api.ErrForm)
				}
				b[4+n/8] = 0
			}
		}
	}
}

func wantError(t *testing.T, b []byte, want api.Errno) {
	t.Helper()
	if l, e := Unpack(string(b)); e != want || (e == api.OK) != (len(l) == 1) {
		t.Fatalf("%x: %s, %v; want %v", b, showAll(l), e, want)
	}
}

// The iterator goes through all bits in their order, and no further than it is asked to.
func TestBits(t *testing.T) {
	for _, s := range []string{"|", "1|", "|1", "010|1", "|0110", "1101|", strings.Repeat("10", 32) + "|" + strings.Repeat("011", 21)} {
		m := mapOf(s)
		all := append(slices.Clone(m.Locals), m.Stack...)
		for end := range len(all) + 1 {
			asked := 0
			for n, bit := range m.bits() {
				if n != asked || *bit != all[n] {
					t.Fatal(s, n, *bit)
				}
				if asked++; asked == end {
					break
				}
			}
			if want := end; end > 0 && asked != want || end == 0 && asked != len(all) {
				t.Error(s, end, asked)
			}
		}
	}
}
