package code

import (
	"encoding/binary"
	"math"
	"reflect"
	"slices"
	"strconv"
	"strings"
	"testing"

	"crucible/api"
)

// table is the document's: the ops of each form.
var table = map[byte]string{
	'-': "0 nop, 3 null, 6 pop, 7 dup, 8 swap, 9 add, 10 sub, 11 mul, 12 div, 13 rem, 14 neg, 15 and, 16 or, 17 xor, 18 shl, 19 shr, 33 len, 34 aget, 35 aput, 44 ret, 45 vret, 46 throw, 49 enter, 50 exit, 52 join, 53 yield, 54 print, 55 prints, 56 weak, 57 deref, 58 slen, 59 schar, 60 scat, 61 intern, 62 loader, 63 make",
	'n': "1 int, 2 text, 31 new, 32 array, 36 get, 37 put, 38 sget, 39 sput, 40 virt, 41 iface, 42 stat, 43 spec, 47 cast, 48 is, 51 spawn",
	'b': "4 load, 5 store",
	'j': "20 goto, 21 ifeq, 22 ifne, 23 iflt, 24 ifge, 25 cmpeq, 26 cmplt, 27 ifnull, 28 ifsome, 29 same",
	's': "30 switch",
}

// final are the names of the ops that nothing follows.
var final = []string{"goto", "switch", "ret", "vret", "throw"}

type row struct {
	op   int
	name string
	form byte
}

// rows are the table's, by op.
func rows(t testing.TB) []row {
	t.Helper()
	var l []row
	for form, ops := range table {
		for _, s := range strings.Split(ops, ", ") {
			number, name, _ := strings.Cut(s, " ")
			op, err := strconv.Atoi(number)
			if err != nil {
				t.Fatal(err)
			}
			l = append(l, row{op, name, form})
		}
	}
	slices.SortFunc(l, func(a, b row) int { return a.op - b.op })
	if len(l) != 64 || l[63].op != 63 {
		t.Fatal("the table has not the ops 0 to 63")
	}
	return l
}

var noOps = []int{math.MinInt, -256, -192, -1, 64, 65, 255, 256, 257, 300, 1 << 32, 1<<32 + 1, math.MaxInt}

func TestI1Form(t *testing.T) {
	for _, r := range rows(t) {
		if got := Form(r.op); got != r.form {
			t.Errorf("Form(%d): %q, not %q", r.op, got, r.form)
		}
	}
	for _, op := range noOps {
		if got := Form(op); got != 0 {
			t.Errorf("Form(%d): %q", op, got)
		}
	}
}

func TestI1Name(t *testing.T) {
	for _, r := range rows(t) {
		if got, ok := Name(r.op); got != r.name || !ok {
			t.Errorf("Name(%d): %q %v, not %q", r.op, got, ok, r.name)
		}
	}
	for _, op := range noOps {
		if got, ok := Name(op); got != "" || ok {
			t.Errorf("Name(%d): %q %v", op, got, ok)
		}
	}
}

func TestI1Op(t *testing.T) {
	for _, r := range rows(t) {
		if got, ok := Op(r.name); got != r.op || !ok {
			t.Errorf("Op(%q): %d %v, not %d", r.name, got, ok, r.op)
		}
	}
	for _, name := range []string{"", " ", "what", "Nop", "NOP", "nop ", " nop", "nopp", "no", "int\x00", "1", "\xff", "ifé", strings.Repeat("nop", 1000)} {
		if got, ok := Op(name); got != 0 || ok {
			t.Errorf("Op(%q): %d %v", name, got, ok)
		}
	}
}

func TestI1Ends(t *testing.T) {
	for _, r := range rows(t) {
		if got := Ends(r.op); got != slices.Contains(final, r.name) {
			t.Errorf("Ends(%d) (%s): %v", r.op, r.name, got)
		}
	}
	for _, op := range append(noOps, 20+256, 44-64, 44+64) {
		if Ends(op) {
			t.Errorf("Ends(%d)", op)
		}
	}
}

// The sample has each form, jumps on and back, a switch without keys and one with keys of which two are equal.
const sampleCode = "\x01\x01\x02" + "\x04\xff" + "\x1e\x00\x0d\x00\x02\x00\x07\x00\x0d\x00\x08\xff\xfb" + "\x00" + "\x14\xff\xff" + "\x1e\xff\xef\x00\x00" + "\x05\x00" + "\x15\xff\xe3" + "\x1e\xff\xe0\x00\x02\xff\xff\x00\x00\xff\xff\x00\x0d" + "\x2d"

func sample() []api.Instr {
	return []api.Instr{
		{Pc: 0, Op: api.Int, N: 258},
		{Pc: 3, Op: api.Load, N: 255},
		{Pc: 5, Op: api.Switch, Keys: []int{7, 8}, To: []int{18, 18, 0}},
		{Pc: 18, Op: api.Nop},
		{Pc: 19, Op: api.Goto, To: []int{18}},
		{Pc: 22, Op: api.Switch, To: []int{5}},
		{Pc: 27, Op: api.Store, N: 0},
		{Pc: 29, Op: api.IfEq, To: []int{0}},
		{Pc: 32, Op: api.Switch, Keys: []int{65535, 65535}, To: []int{0, 32, 45}},
		{Pc: 45, Op: api.Vret},
	}
}

// equal holds instructions against each other; an empty list is equal to none.
func equal(a, b []api.Instr) bool {
	return slices.EqualFunc(a, b, func(a, b api.Instr) bool {
		return a.Pc == b.Pc && a.Op == b.Op && a.N == b.N && slices.Equal(a.Keys, b.Keys) && slices.Equal(a.To, b.To)
	})
}

func wantCode(t *testing.T, code string, want []api.Instr, e api.Errno) {
	t.Helper()
	if l, got := Decode(code); got != e || !equal(l, want) {
		t.Errorf("Decode(%.40q): %v %v, not %v %v", code, l, got, want, e)
	}
}

func wantBytes(t *testing.T, l []api.Instr, want string, e api.Errno) {
	t.Helper()
	if code, got := Encode(l); got != e || code != want {
		t.Errorf("Encode of %d: %.40q %v, not %.40q %v", len(l), code, got, want, e)
	}
}

func TestI2Examples(t *testing.T) {
	l, code := sample(), sampleCode
	wantCode(t, code, l, api.OK)
	wantCode(t, "\x2c", []api.Instr{{Op: api.Ret}}, api.OK)
	wantCode(t, "\x04\x05\x2c", []api.Instr{{Op: api.Load, N: 5}, {Pc: 2, Op: api.Ret}}, api.OK)
	wantCode(t, "\x14\x00\x03\x2c", []api.Instr{{Op: api.Goto, To: []int{3}}, {Pc: 3, Op: api.Ret}}, api.OK)
	wantCode(t, "\x14\x00\x02\x2c", nil, api.ErrJump)
	wantCode(t, "\x00", nil, api.ErrEnd)
	wantCode(t, "\xff", nil, api.ErrOp)
	wantCode(t, "\x14\x00", nil, api.ErrShort)
}

func TestI2EachOp(t *testing.T) {
	for _, r := range rows(t) {
		code, in := string(rune(r.op)), api.Instr{Op: r.op}
		switch r.form {
		case 'n':
			code, in.N = code+"\xab\xcd", 0xabcd
		case 'b':
			code, in.N = code+"\xab", 0xab
		case 'j':
			code, in.To = code+"\x00\x00", []int{0}
		case 's':
			code, in.To, in.Keys = code+"\x00\x00\x00\x01\xab\xcd\x00\x00", []int{0, 0}, []int{0xabcd}
		}
		l := []api.Instr{in, {Pc: len(code), Op: api.Throw}}
		wantCode(t, code+"\x2e", l, api.OK)
		wantBytes(t, l, code+"\x2e", api.OK)
		e, want := api.ErrEnd, []api.Instr(nil)
		if slices.Contains(final, r.name) {
			e, want = api.OK, l[:1]
		}
		wantCode(t, code, want, e)
		for n := 1; n < len(code); n++ {
			wantCode(t, code[:n], nil, api.ErrShort)
			wantCode(t, "\x2c"+code[:n], nil, api.ErrShort)
		}
	}
	for op := 64; op < 256; op++ {
		wantCode(t, string([]byte{byte(op)}), nil, api.ErrOp)
		wantCode(t, string([]byte{44, byte(op), 44}), nil, api.ErrOp)
	}
}

func TestI2Bounds(t *testing.T) {
	wantCode(t, "", nil, api.ErrShort)
	whole := strings.Repeat("\x2c", api.MaxCode)
	if l, e := Decode(whole); e != api.OK || len(l) != api.MaxCode || l[4095].Pc != 4095 {
		t.Error(len(l), e)
	}
	wantCode(t, whole+"\x2c", nil, api.ErrLong)
	wantCode(t, "\xff"+whole, nil, api.ErrLong)
	wantCode(t, strings.Repeat("\xff", 1<<20), nil, api.ErrLong)
	for _, keys := range []int{1021, 1022} {
		l, code := longSwitch(keys)
		wantCode(t, code, l, api.OK)
		wantBytes(t, l, code, api.OK)
	}
	_, code := longSwitch(1023)
	wantCode(t, code, nil, api.ErrLong)
	_, code = longSwitch(1022)
	wantCode(t, code[:len(code)-1], nil, api.ErrShort)
	wantCode(t, "\x1e\x00\x00\xff\xff"+strings.Repeat("\x00", 4000), nil, api.ErrShort)
	wantCode(t, "\x1e\x00\x05\x00\x01\x00", nil, api.ErrShort)
}

// longSwitch is a switch of so many keys, and its code.
func longSwitch(keys int) ([]api.Instr, string) {
	in := api.Instr{Op: api.Switch, To: []int{0}}
	b := []byte{api.Switch, 0, 0}
	b = binary.BigEndian.AppendUint16(b, uint16(keys))
	for k := range keys {
		in.Keys, in.To = append(in.Keys, 60000+k), append(in.To, 0)
		b = binary.BigEndian.AppendUint16(b, uint16(60000+k))
		b = append(b, 0, 0)
	}
	return []api.Instr{in}, string(b)
}

// jumper is a code of nops with a goto at pc, and the code's bytes.
func jumper(size, pc, jump int) string {
	b := make([]byte, size)
	b[pc] = api.Goto
	binary.BigEndian.PutUint16(b[pc+1:], uint16(jump))
	b[size-1] = api.Ret
	return string(b)
}

func TestI2Jumps(t *testing.T) {
	const size, pc = 4096, 2000
	for _, c := range []struct {
		jump int
		e    api.Errno
	}{
		{0, 0}, {3, 0}, {1, api.ErrJump}, {2, api.ErrJump}, {4, 0}, {-1, 0}, {-pc, 0}, {-pc - 1, api.ErrJump},
		{size - 1 - pc, 0}, {size - pc, api.ErrJump}, {size + 1 - pc, api.ErrJump}, {32767, api.ErrJump}, {-32768, api.ErrJump},
		{127, 0}, {128, 0}, {255, 0}, {256, 0}, {-128, 0}, {-129, 0}, {-256, 0}, {-257, 0},
	} {
		code := jumper(size, pc, c.jump)
		l, e := Decode(code)
		if e != c.e || e != api.OK && l != nil {
			t.Errorf("jump %d: %v", c.jump, e)
		}
		if e == api.OK && !slices.Equal(l[pc].To, []int{pc + c.jump}) {
			t.Errorf("jump %d: %v", c.jump, l[pc])
		}
	}
	for i, r := range rows(t) {
		if r.form == 'j' {
			wantCode(t, string([]byte{byte(i), 0, 1, 44}), nil, api.ErrJump)
			wantCode(t, string([]byte{byte(i), 0, 4, 44}), nil, api.ErrJump)
			wantCode(t, string([]byte{byte(i), 255, 255, 44}), nil, api.ErrJump)
		}
	}
	wantCode(t, "\x1e\x00\x01\x00\x00", nil, api.ErrJump)
	wantCode(t, "\x1e\x00\x00\x00\x02\x00\x00\x00\x00\x00\x00\x00\x05", nil, api.ErrJump)
	wantCode(t, "\x1e\x00\x00\x00\x02\x00\x00\x00\x05\x00\x00\x00\x00", nil, api.ErrJump)
}

func TestI2Order(t *testing.T) {
	wantCode(t, "\x14\x00\x01\xff", nil, api.ErrOp)            // ahead of the jump
	wantCode(t, "\x14\x00\x01\x14", nil, api.ErrShort)         // likewise
	wantCode(t, "\x14\x00\x01\x00", nil, api.ErrJump)          // ahead of the end
	wantCode(t, "\xff\x14", nil, api.ErrOp)                    // the first instruction's
	wantCode(t, "\x1e\x00\x00\x00\x01\xff", nil, api.ErrShort) // the byte is an operand's
	wantCode(t, "\x01\xff\xff\xff", nil, api.ErrOp)
	wantCode(t, "\x01\xff\xff\x00", nil, api.ErrEnd)
	wantCode(t, "\x2c\x15\x00\x00", nil, api.ErrEnd)
}

func TestI3Each(t *testing.T) {
	l, code := sample(), sampleCode
	wantBytes(t, l, code, api.OK)
	for i, c := range []struct {
		turn func(l []api.Instr)
		e    api.Errno
	}{
		{func(l []api.Instr) { l[0].Op = 64 }, api.ErrOp},
		{func(l []api.Instr) { l[9].Op = -1 }, api.ErrOp},
		{func(l []api.Instr) { l[9].Op = math.MinInt }, api.ErrOp},
		{func(l []api.Instr) { l[9].Op = api.Vret + 256 }, api.ErrOp},
		{func(l []api.Instr) { l[0].N = 65536 }, api.ErrArg},
		{func(l []api.Instr) { l[0].N = -1 }, api.ErrArg},
		{func(l []api.Instr) { l[0].N = math.MinInt }, api.ErrArg},
		{func(l []api.Instr) { l[0].N = math.MaxInt }, api.ErrArg},
		{func(l []api.Instr) { l[1].N = 256 }, api.ErrArg},
		{func(l []api.Instr) { l[1].N = -1 }, api.ErrArg},
		{func(l []api.Instr) { l[2].N = 1 }, api.ErrArg},
		{func(l []api.Instr) { l[3].N = 1 }, api.ErrArg},
		{func(l []api.Instr) { l[4].N = -1 }, api.ErrArg},
		{func(l []api.Instr) { l[0].To = []int{0} }, api.ErrArg},
		{func(l []api.Instr) { l[1].To = []int{0} }, api.ErrArg},
		{func(l []api.Instr) { l[3].To = []int{0} }, api.ErrArg},
		{func(l []api.Instr) { l[4].To = nil }, api.ErrArg},
		{func(l []api.Instr) { l[4].To = []int{0, 0} }, api.ErrArg},
		{func(l []api.Instr) { l[5].To = nil }, api.ErrArg},
		{func(l []api.Instr) { l[5].To = []int{0, 0} }, api.ErrArg},
		{func(l []api.Instr) { l[5].Keys = []int{1} }, api.ErrArg},
		{func(l []api.Instr) { l[2].To = l[2].To[:2] }, api.ErrArg},
		{func(l []api.Instr) { l[2].To = append(l[2].To, 0) }, api.ErrArg},
		{func(l []api.Instr) { l[0].Keys = []int{0} }, api.ErrArg},
		{func(l []api.Instr) { l[3].Keys = []int{0} }, api.ErrArg},
		{func(l []api.Instr) { l[4].Keys = []int{0} }, api.ErrArg},
		{func(l []api.Instr) { l[4].Keys, l[4].To = []int{0}, []int{0, 0} }, api.ErrArg},
		{func(l []api.Instr) { l[2].Keys[1] = -1 }, api.ErrArg},
		{func(l []api.Instr) { l[2].Keys[0] = 65536 }, api.ErrArg},
		{func(l []api.Instr) { l[2].Keys[0] = math.MaxInt }, api.ErrArg},
		{func(l []api.Instr) { l[0].Pc = 1 }, api.ErrArg},
		{func(l []api.Instr) { l[1].Pc = 4 }, api.ErrArg},
		{func(l []api.Instr) { l[1].Pc = 0 }, api.ErrArg},
		{func(l []api.Instr) { l[9].Pc = math.MinInt }, api.ErrArg},
		{func(l []api.Instr) { l[2].To[0] = 1 }, api.ErrJump},
		{func(l []api.Instr) { l[2].To[2] = 46 }, api.ErrJump},
		{func(l []api.Instr) { l[4].To[0] = -1 }, api.ErrJump},
		{func(l []api.Instr) { l[4].To[0] = 4096 }, api.ErrJump},
		{func(l []api.Instr) { l[4].To[0] = math.MinInt }, api.ErrJump},
		{func(l []api.Instr) { l[4].To[0] = math.MaxInt }, api.ErrJump},
		{func(l []api.Instr) { l[4].To[0] = 65536 }, api.ErrJump},
		{func(l []api.Instr) { l[9].Op = api.Nop }, api.ErrEnd},
		// The order.
		{func(l []api.Instr) { l[0].Op, l[0].N, l[0].Pc = 64, -1, 7 }, api.ErrOp},
		{func(l []api.Instr) { l[0].N, l[1].Op = -1, 64 }, api.ErrArg},
		{func(l []api.Instr) { l[0].Op, l[1].N = 64, -1 }, api.ErrOp},
		{func(l []api.Instr) { l[2].To[0], l[3].Op = 1, 64 }, api.ErrOp},
		{func(l []api.Instr) { l[2].To[0], l[9].Op = 1, 0 }, api.ErrJump},
		{func(l []api.Instr) { l[2].To[0], l[9].N = 1, 1 }, api.ErrArg},
	} {
		l := sample()
		c.turn(l)
		if b, e := Encode(l); b != "" || e != c.e {
			t.Errorf("case %d: %q %v, not %v", i, b, e, c.e)
		}
	}
}

func TestI3Edges(t *testing.T) {
	for _, n := range []int{0, 65535} {
		wantBytes(t, []api.Instr{{Op: api.New, N: n}, {Pc: 3, Op: api.Ret}}, string([]byte{31, byte(n), byte(n), 44}), api.OK)
		wantBytes(t, []api.Instr{{Op: api.Store, N: n & 255}, {Pc: 2, Op: api.Ret}}, string([]byte{5, byte(n), 44}), api.OK)
	}
	wantBytes(t, nil, "", api.ErrShort)
	wantBytes(t, []api.Instr{}, "", api.ErrShort)
	l := make([]api.Instr, api.MaxCode+1)
	for i := range l {
		l[i] = api.Instr{Pc: i, Op: api.Ret, Keys: []int{}, To: []int{}}
	}
	wantBytes(t, l[:api.MaxCode], strings.Repeat("\x2c", api.MaxCode), api.OK)
	wantBytes(t, l, "", api.ErrLong)
	l[api.MaxCode].Op = 64
	wantBytes(t, l, "", api.ErrOp)
	l[api.MaxCode] = api.Instr{Pc: api.MaxCode, Op: api.Goto, To: []int{-1}}
	wantBytes(t, l, "", api.ErrLong) // ahead of the jump
	l[api.MaxCode] = api.Instr{Pc: api.MaxCode, Op: api.Nop}
	wantBytes(t, l, "", api.ErrLong) // ahead of the end
	l[api.MaxCode-1] = api.Instr{Pc: api.MaxCode - 1, Op: api.Int}
	wantBytes(t, l[:api.MaxCode], "", api.ErrLong)
	long, _ := longSwitch(1023)
	wantBytes(t, long, "", api.ErrArg)
	long, _ = longSwitch(70000)
	wantBytes(t, long, "", api.ErrArg)
	long, code := longSwitch(1022)
	long = append(long, api.Instr{Pc: len(code), Op: api.Load}, api.Instr{Pc: len(code) + 2, Op: api.Ret})
	wantBytes(t, long, code+"\x04\x00\x2c", api.OK)
	long[2].Pc++
	wantBytes(t, long, "", api.ErrArg)
}

func TestI4Index(t *testing.T) {
	l := sample()
	starts := []int{0, 3, 5, 18, 19, 22, 27, 29, 32, 45}
	for pc := -3; pc < 60; pc++ {
		if got := Index(l, pc); got != slices.Index(starts, pc) {
			t.Errorf("Index(%d): %d", pc, got)
		}
	}
	mixed := []api.Instr{{Pc: 9}, {Pc: -4}, {Pc: 2}, {Pc: 9}, {Pc: -4}, {Pc: math.MaxInt}, {Pc: math.MinInt}}
	for _, c := range [][2]int{{9, 0}, {-4, 1}, {2, 2}, {math.MaxInt, 5}, {math.MinInt, 6}, {0, -1}, {-1, -1}} {
		if got := Index(mixed, c[0]); got != c[1] {
			t.Errorf("Index(%d): %d, not %d", c[0], got, c[1])
		}
	}
	if Index(mixed[:2], 2) != -1 || Index(nil, 0) != -1 {
		t.Error("Index reads behind the end")
	}
}

// checkBytes holds the promises of I5 for a code, whatever it is.
func checkBytes(t *testing.T, code string) {
	l, e := Decode(code)
	if e != api.OK {
		if l != nil {
			t.Fatalf("%q: %v beside %v", code, l, e)
		}
		return
	}
	if b, e := Encode(l); b != code || e != api.OK {
		t.Fatalf("%q: back as %q %v", code, b, e)
	}
	pc := 0
	for i, in := range l {
		if in.Pc != pc || Index(l, pc) != i {
			t.Fatalf("%q: instruction %d at %d, not %d", code, i, in.Pc, pc)
		}
		pc += map[byte]int{'-': 1, 'n': 3, 'b': 2, 'j': 3, 's': 5 + 4*len(in.Keys)}[Form(in.Op)]
	}
	if pc != len(code) {
		t.Fatalf("%q: %d bytes belong to instructions", code, pc)
	}
}

func TestI5ThereAndBack(t *testing.T) {
	l, code := sample(), sampleCode
	checkBytes(t, code)
	b, _ := Encode(l)
	if back, e := Decode(b); !equal(back, l) || e != api.OK {
		t.Error(back, e)
	}
	// All short codes of the bytes that matter.
	letters := []byte{0, 1, 3, 4, 20, 21, 30, 44, 63, 64, 255}
	var walk func(code []byte)
	walk = func(code []byte) {
		checkBytes(t, string(code))
		if len(code) < 5 {
			for _, c := range letters {
				walk(append(code, c))
			}
		}
	}
	walk(nil)
}

func FuzzDecode(f *testing.F) {
	seeds := []string{sampleCode, "", "\x2c", "\x14\xff\xff", "\x1e\x00\x00\x00\x01\x00\x00\x00\x00", jumper(300, 100, -100)}
	for _, s := range seeds {
		f.Add(s)
	}
	f.Fuzz(checkBytes)
}

func TestP3Shared(t *testing.T) {
	l, code := sample(), sampleCode
	same := sample()
	Encode(l)
	Index(l, 5)
	if !reflect.DeepEqual(l, same) {
		t.Error("an argument is changed")
	}
	a, _ := Decode(code)
	b, _ := Decode(code)
	for i := range a {
		clobber(a[i].Keys)
		clobber(a[i].To)
		a[i] = api.Instr{}
	}
	if !equal(b, l) {
		t.Error("two answers share memory", b)
	}
	for i := range b {
		_, _ = append(b[i].Keys, 1, 2, 3), append(b[i].To, 1, 2, 3)
	}
	if !equal(b, l) {
		t.Error("lists of one answer share memory", b)
	}
	// Behind the length of a list, nothing is read or written.
	to := []int{0, 77}
	long := []api.Instr{{Op: api.Goto, To: to[:1]}, {Pc: 3, Op: 64, N: 5}}
	wantBytes(t, long[:1], "\x14\x00\x00", api.OK)
	if to[1] != 77 || long[1].N != 5 {
		t.Error("written behind the end")
	}
}

func clobber(l []int) {
	for i := range l[:cap(l)] {
		l[:cap(l)][i] = -99
	}
}
