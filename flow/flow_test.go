package flow

import (
	"math"
	"reflect"
	"slices"
	"strconv"
	"strings"
	"testing"

	"crucible/api"
	"crucible/code"
)

// example is the document's: its instructions are at 0, 2, 5 and 6, its size is 9.
const example = "load 0, ifeq 6, ret, goto 0"

// decoded is what code.Decode answers for the code of a text, and the code's size. Behind an op stand its number or its targets; a switch has the keys 7, 8 and so on.
func decoded(t testing.TB, text string) ([]api.Instr, int) {
	t.Helper()
	var l []api.Instr
	size := 0
	for _, s := range strings.Split(text, ", ") {
		words := strings.Fields(s)
		op, ok := code.Op(words[0])
		if !ok {
			t.Fatal(s)
		}
		in := api.Instr{Pc: size, Op: op}
		for _, w := range words[1:] {
			n, err := strconv.Atoi(w)
			if err != nil {
				t.Fatal(s)
			}
			in.To = append(in.To, n)
		}
		switch code.Form(op) {
		case '-':
			size++
		case 'n', 'b':
			in.N, in.To = in.To[0], nil
			size += 2
			if code.Form(op) == 'n' {
				size++
			}
		case 'j':
			size += 3
		case 's':
			for k := range in.To[1:] {
				in.Keys = append(in.Keys, 7+k)
			}
			size += 1 + 4*len(in.To)
		}
		l = append(l, in)
	}
	return recoded(t, l)
}

// recoded is what code.Decode answers for the code that l makes, and the code's size.
func recoded(t testing.TB, l []api.Instr) ([]api.Instr, int) {
	t.Helper()
	b, e := code.Encode(l)
	if e != api.OK {
		t.Fatal(l, e)
	}
	l, e = code.Decode(b)
	if e != api.OK {
		t.Fatal(l, e)
	}
	return l, len(b)
}

// lists are those of a text: they are parted by semicolons, their numbers by commas.
func lists(t testing.TB, text string) [][]int {
	t.Helper()
	var l [][]int
	for _, s := range strings.Split(text, ";") {
		l = append(l, numbers(t, s))
	}
	return l
}

func numbers(t testing.TB, text string) []int {
	t.Helper()
	var l []int
	for _, w := range strings.FieldsFunc(text, func(r rune) bool { return r == ',' || r == ' ' }) {
		n, err := strconv.Atoi(w)
		if err != nil {
			t.Fatal(text)
		}
		l = append(l, n)
	}
	return l
}

// handlers are those of a text: From, To and At of each.
func handlers(t testing.TB, text string) []api.Handler {
	t.Helper()
	var l []api.Handler
	if text == "" {
		return nil
	}
	for i, n := range lists(t, text) {
		l = append(l, api.Handler{From: n[0], To: n[1], At: n[2], Class: i})
	}
	return l
}

// marks are bools as a text of 0 and 1.
func marks(l []bool) string {
	var b strings.Builder
	for _, m := range l {
		b.WriteByte(map[bool]byte{false: '0', true: '1'}[m])
	}
	return b.String()
}

func equal(a, b [][]int) bool { return slices.EqualFunc(a, b, slices.Equal[[]int]) }

func TestW1Succ(t *testing.T) {
	for _, c := range []struct{ text, want string }{
		{example, "1;2,3;;0"},
		{"ret", ""}, {"vret", ""}, {"throw", ""},
		{"nop, ret", "1;"},
		{"goto 0", "0"},
		{"goto 3, ret", "1;"},
		{"goto 4, ret, ret", "2;;"},
		{"ret, ret, ret", ";;"},
		{"ifeq 3, ret", "1;"},                                // the next one and the target are one
		{"ifeq 0, ret", "1,0;"},                              // the next one first
		{"nop, ifeq 0, ret", "1;2,0;"},                       // likewise
		{"ifeq 4, nop, ret", "1,2;2;"},                       // a target behind the next one
		{"switch 5, ret", "1;"},                              // no keys
		{"switch 0", "0"},                                    // to itself
		{"switch 14 13 14, ret, ret", "2,1;;"},               // the order of To, each once
		{"switch 14 14 13, ret, ret", "2,1;;"},               // likewise
		{"switch 13 14 13, ret, ret", "1,2;;"},               // likewise
		{"switch 17 0 17 0, ret, ret", "1,0;;"},              // as a target, the next one is listed where it stands
		{"switch 18 0 0 0, ret, ret", "2,0;;"},               // and otherwise not
		{"nop, switch 15 1 0, nop, ret", "1;3,1,0;3;"},       // the default first, though it leads furthest
		{"switch 9 11, load 7, ret", "1,2;2;"},               // indices, not positions
		{"int 9, text 9, new 9, goto 3", "1;2;3;1"},          // likewise
		{"virt 1, iface 1, stat 1, spec 1, ret", "1;2;3;4;"}, // a call goes on
		{"same 0, ifnull 0, ifsome 6, cmplt 0, vret", "1,0;2,0;3,2;4,0;"},
	} {
		l, _ := decoded(t, c.text)
		if got := Succ(l); !equal(got, lists(t, c.want)) {
			t.Errorf("%s: %v, not %s", c.text, got, c.want)
		}
	}
}

func TestW1EachOp(t *testing.T) {
	final := []int{api.Goto, api.Switch, api.Ret, api.Vret, api.Throw}
	for op := range api.OpLast + 1 {
		in := api.Instr{Op: op}
		want := []int{1}
		if slices.Contains(final, op) {
			want = nil
		}
		if f := code.Form(op); f == 'j' || f == 's' {
			in.To = []int{0}
			want = append(want, 0)
		}
		size := map[byte]int{'-': 1, 'b': 2, 'n': 3, 'j': 3, 's': 5}[code.Form(op)]
		l, _ := recoded(t, []api.Instr{in, {Pc: size, Op: api.Ret}})
		if got := Succ(l); !equal(got, [][]int{want, nil}) {
			t.Errorf("op %d: %v", op, got)
		}
	}
}

func TestW1Long(t *testing.T) {
	// The longest code, and a switch of many keys to few places.
	text := strings.Repeat("nop, ", api.MaxCode-4) + "ifeq 0, ret"
	l, _ := decoded(t, text)
	got := Succ(l)
	for i := range api.MaxCode - 4 {
		if !slices.Equal(got[i], []int{i + 1}) {
			t.Fatal(i, got[i])
		}
	}
	if !equal(got[api.MaxCode-4:], [][]int{{api.MaxCode - 3, 0}, nil}) {
		t.Error(got[api.MaxCode-4:])
	}
	to := make([]string, 1000)
	for i := range to {
		to[i] = strconv.Itoa(4001 + i%10)
	}
	l, _ = decoded(t, "switch "+strings.Join(to, " ")+strings.Repeat(", ret", 10))
	if got := Succ(l); !slices.Equal(got[0], []int{1, 2, 3, 4, 5, 6, 7, 8, 9, 10}) {
		t.Error(got)
	}
}

func TestW2Cover(t *testing.T) {
	for _, c := range []struct{ handlers, want string }{
		{"", ";;;"},
		{"0,5,5", "0;0;;"},
		{"0,9,0", "0;0;0;0"},
		{"6,9,0", ";;;0"},
		{"5,6,5", ";;0;"}, // its own beginning
		{"2,6,6", ";0;0;"},
		{"0,2,0;2,5,0;5,6,0;6,9,0", "0;1;2;3"},
		{"0,9,0;0,9,0;2,6,5;0,9,6", "0,1,3;0,1,2,3;0,1,2,3;0,1,3"},
		{"2,6,6;0,5,5", "1;0,1;0;"},
		{"5,5,0", ";;;"}, // nothing is from 5 to 5
		{"0,0,0", ";;;"},
		{"5,2,0", ";;;"}, // nor backwards
		{"6,0,0;0,2,0", "1;;;"},
	} {
		l, size := decoded(t, example)
		if got, e := Cover(l, size, handlers(t, c.handlers)); e != api.OK || !equal(got, lists(t, c.want)) {
			t.Errorf("%s: %v %v, not %s", c.handlers, got, e, c.want)
		}
	}
}

// wrongHandlers are some that the example's code must not have.
var wrongHandlers = []api.Handler{
	{From: 1, To: 5, At: 5}, {From: 3, To: 9, At: 5}, {From: -1, To: 5, At: 5}, {From: 10, To: 5, At: 5},
	{From: 9, To: 9, At: 5}, // the size is the beginning of none
	{From: 0, To: 8, At: 5}, {From: 0, To: 1, At: 5}, {From: 0, To: 10, At: 5}, {From: 0, To: -1, At: 5}, {From: 5, To: 4, At: 5},
	{From: 0, To: 5, At: 1}, {From: 0, To: 5, At: 9}, {From: 0, To: 5, At: -1}, {From: 0, To: 9, At: 9}, {From: 5, To: 5, At: 7},
	{From: math.MinInt, To: 5, At: 5}, {From: 0, To: math.MaxInt, At: 5}, {From: 0, To: 5, At: math.MinInt}, {From: 1 << 32, To: 5, At: 5}, {From: 0, To: 5 + 1<<32, At: 5},
}

func TestW2CoverWrong(t *testing.T) {
	l, size := decoded(t, example)
	good := handlers(t, "0,5,5;0,9,0")
	for _, h := range wrongHandlers {
		for _, hs := range [][]api.Handler{{h}, {h, good[0]}, {good[0], good[1], h}, {good[0], h, good[1]}} {
			if got, e := Cover(l, size, hs); e != api.ErrJump || len(got) != 0 {
				t.Errorf("Cover of %v: %v %v", hs, got, e)
			}
			if got, e := Reach(l, size, hs); e != api.ErrJump || len(got) != 0 {
				t.Errorf("Reach of %v: %v %v", hs, got, e)
			}
		}
	}
	// A handler may end at the size, and nowhere else behind the last instruction.
	l, size = decoded(t, "nop, load 3, int 9, throw")
	for to := range 12 {
		_, e := Cover(l, size, []api.Handler{{From: 1, To: to, At: 6}})
		if right := slices.Contains([]int{0, 1, 3, 6, 7}, to); right != (e == api.OK) {
			t.Error(to, e)
		}
	}
	// The class is not looked at.
	for _, class := range []int{math.MinInt, -1, 0, 3000} {
		if got, e := Cover(l, size, []api.Handler{{From: 1, To: 6, At: 6, Class: class}}); e != api.OK || !equal(got, [][]int{nil, {0}, {0}, nil}) {
			t.Error(class, got, e)
		}
	}
}

func TestW2Starts(t *testing.T) {
	l, _ := decoded(t, example)
	for _, c := range []struct{ handlers, want string }{
		{"", ""},
		{"0,5,5", "2"},
		{"0,9,0;0,9,2;0,9,5;0,9,6", "0,1,2,3"},
		{"0,9,6;0,9,0;0,9,6", "3,0,3"},
		{"0,9,1;0,9,9;0,9,5;0,9,-1", "-1,-1,2,-1"},
		{"1,8,5;-4,100,0", "2,0"}, // the places that it covers are not looked at
	} {
		if got := Starts(l, handlers(t, c.handlers)); !slices.Equal(got, numbers(t, c.want)) {
			t.Errorf("%s: %v, not %s", c.handlers, got, c.want)
		}
	}
	for _, at := range []int{math.MinInt, math.MaxInt, 3, 4, 7, 8, 1 << 32} {
		if got := Starts(l, []api.Handler{{To: 9, At: at}}); !slices.Equal(got, []int{-1}) {
			t.Error(at, got)
		}
	}
}

func TestW3Reach(t *testing.T) {
	for _, c := range []struct{ text, handlers, want string }{
		{"ret", "", "1"},
		{"nop, nop, ret", "", "111"},
		{example, "", "1111"},
		{"goto 4, ret, ret", "", "101"}, // behind a goto
		{"goto 4, nop, ret", "", "101"}, // though it goes on to one that is reached
		{"ret, ret", "", "10"},
		{"throw, goto 0", "", "10"},
		{"goto 3, ret", "", "11"},
		{"goto 0, ret", "", "10"},
		{"switch 9 11, ret, nop, ret", "", "1101"},
		{"switch 10 10, ret, nop, ret", "", "1011"},
		{"goto 7, ret, goto 3, ret", "", "1001"},               // a jump of one that is not reached
		{"goto 7, ret, goto 10, goto 3, ret", "", "11010"},     // by a jump back
		{"ret, nop, ret", "0,1,2", "101"},                      // by a handler
		{"ret, nop, ret", "0,1,1", "111"},                      // and on from there
		{"ret, nop, ret", "1,2,2", "100"},                      // the handler covers none that is reached
		{"ret, nop, ret", "1,3,1", "100"},                      // not even by itself
		{"ret, nop, ret", "0,0,1", "100"},                      // nor if it covers nothing
		{"ret, nop, ret", "2,1,1", "100"},                      // likewise
		{"ret, ret, ret, ret", "2,3,3;1,2,2;0,1,1", "1111"},    // one handler behind the other
		{"ret, ret, ret, ret", "2,3,3;0,1,1", "1100"},          // the chain is broken
		{"ret, ret, ret, ret", "0,4,3;3,4,2", "1011"},          // to the size
		{"goto 4, ret, nop, ret", "3,5,3", "1111"},             // it covers one of two
		{"nop, ret, goto 0, ret", "0,2,5", "1101"},             // the beginning is not covered
		{"ifeq 4, ret, goto 3, ret", "7,8,7", "1110"},          // a handler of nothing but itself
		{"ifeq 7, ret, goto 3, nop, ret", "3,4,4", "11111"},    // a loop through a handler
		{"ret, ifeq 1, goto 0, ret", "", "1000"},               // a loop that is not reached
		{"switch 5, goto 0, ret", "0,8,8;5,8,8", "111"},        // two to one place
		{"load 0, ifeq 6, ret, goto 0, ret", "5,6,9", "11111"}, // the shared one is alike
	} {
		l, size := decoded(t, c.text)
		if got, e := Reach(l, size, handlers(t, c.handlers)); e != api.OK || marks(got) != c.want {
			t.Errorf("%s with %s: %s %v, not %s", c.text, c.handlers, marks(got), e, c.want)
		}
	}
}

func TestW3Back(t *testing.T) {
	for _, c := range []struct{ text, want string }{
		{example, "0001"},
		{"ret", "0"},
		{"goto 0", "1"},
		{"goto 3, goto 3", "01"},
		{"goto 3, goto 0", "01"},
		{"ifeq 3, ifne 3, ifne 6, ret", "0110"}, // to itself
		{"switch 5, ret", "00"},
		{"switch 0, ret", "10"},
		{"switch 13 13 13, ret", "00"},
		{"nop, switch 14 14 0, ret", "010"}, // the last of its targets
		{"nop, switch 14 0 14, ret", "010"}, // the middle one
		{"nop, switch 0 14 14, ret", "010"}, // the default
		{"nop, switch 1 14 14, ret", "010"},
		{"ret, goto 0", "01"}, // though it is not reached
		{"int 9, text 9, load 200, store 0, ret", "00000"},
	} {
		l, _ := decoded(t, c.text)
		if got := Back(l); marks(got) != c.want {
			t.Errorf("%s: %s, not %s", c.text, marks(got), c.want)
		}
	}
}

func TestP1Anything(t *testing.T) {
	numbers := []int{math.MinInt, -1, 0, 1, 2, 5, 64, 65536, math.MaxInt}
	var odd []api.Instr
	for _, n := range numbers {
		odd = append(odd, api.Instr{Pc: n, Op: n, N: n, Keys: numbers, To: numbers}, api.Instr{Pc: n, Op: api.Switch}, api.Instr{Pc: n, Op: api.Nop, To: numbers})
	}
	for _, l := range [][]api.Instr{nil, {}, odd[:1], odd, {{}}, {{To: []int{0, 0}}, {}, {Pc: 1}}} {
		for _, n := range numbers {
			for _, m := range numbers {
				hs := []api.Handler{{From: n, To: m, At: n}, {From: m, To: n, At: m}}
				Starts(l, hs)
				for _, k := range numbers {
					Cover(l, k, hs)
					Reach(l, k, hs)
				}
			}
		}
		for _, k := range numbers {
			if c, e := Cover(l, k, nil); len(c) != len(l) || e != api.OK {
				t.Error(len(l), c, e)
			}
			if r, e := Reach(l, k, nil); len(r) != len(l) || e != api.OK {
				t.Error(len(l), r, e)
			}
		}
		if len(Succ(l)) != len(l) || len(Back(l)) != len(l) || len(Starts(l, nil)) != 0 {
			t.Error(len(l))
		}
	}
}

func TestP1Long(t *testing.T) {
	const n = 300000
	l := make([]api.Instr, n)
	for i := range l {
		l[i] = api.Instr{Pc: i, Op: api.IfEq, To: []int{n - 1 - i}}
	}
	hs := make([]api.Handler, n)
	for i := range hs {
		hs[i] = api.Handler{From: i, To: i + 1, At: n - 1 - i}
	}
	succ := Succ(l)
	if !slices.Equal(succ[7], []int{8, n - 8}) || !slices.Equal(succ[n-1], []int{0}) {
		t.Error(succ[7], succ[n-1])
	}
	if c, e := Cover(l, n, hs); e != api.OK || !slices.Equal(c[n-1], []int{n - 1}) {
		t.Error(e)
	}
	if r, e := Reach(l, n, hs); e != api.OK || slices.Contains(r, false) {
		t.Error(e)
	}
	if s := Starts(l, hs); s[0] != n-1 || s[n-1] != 0 {
		t.Error(s[0], s[n-1])
	}
	wide := make([]int, n)
	for i := range wide {
		wide[i] = i
	}
	for i := range l {
		l[i].To = nil
	}
	l[0] = api.Instr{Op: api.Switch, To: wide}
	if s := Succ(l); !slices.Equal(s[0], wide) || slices.Contains(Back(l)[1:], true) {
		t.Error(len(s[0]))
	}
}

func TestP3Shared(t *testing.T) {
	l, size := decoded(t, example)
	hs := handlers(t, "0,5,5;0,9,0;2,6,6")
	sameL, _ := decoded(t, example)
	sameHs := slices.Clone(hs)
	succ, starts, back := Succ(l), Starts(l, hs), Back(l)
	cover, _ := Cover(l, size, hs)
	reach, _ := Reach(l, size, hs)
	if !reflect.DeepEqual(l, sameL) || !slices.Equal(hs, sameHs) {
		t.Error("an argument is changed")
	}
	for _, lists := range [][][]int{succ, cover} {
		for i := range lists {
			for j := range lists[i][:cap(lists[i])] {
				lists[i][:cap(lists[i])][j] -= 100 * (i + 1)
			}
		}
		for i := range lists {
			for _, n := range lists[i] {
				if n < -100*(i+1) || n >= -100*i {
					t.Error("lists of one answer share memory", lists)
				}
			}
		}
	}
	clear(starts)
	clear(back)
	clear(reach)
	if !reflect.DeepEqual(l, sameL) || !slices.Equal(hs, sameHs) {
		t.Error("an answer shares memory with an argument")
	}
	again, _ := Cover(l, size, hs)
	if !equal(Succ(l), lists(t, "1;2,3;;0")) || !equal(again, lists(t, "0,1;0,1,2;1,2;1")) || !slices.Equal(Starts(l, hs), []int{2, 0, 3}) || marks(Back(l)) != "0001" {
		t.Error("two answers share memory")
	}
	if r, _ := Reach(l, size, hs); marks(r) != "1111" {
		t.Error("two answers share memory", r)
	}
}

func TestP3Beyond(t *testing.T) {
	// Behind the length of a list, nothing is read or written.
	l, size := decoded(t, example)
	l[3].To = append(l[3].To, 6)[:1]
	hs := handlers(t, "0,5,5;1,1,1")[:1]
	if got := Succ(l); !equal(got, lists(t, "1;2,3;;0")) {
		t.Error(got)
	}
	if got := Back(l[:2]); marks(got) != "00" {
		t.Error(got)
	}
	if got, e := Cover(l, size, hs); e != api.OK || !equal(got, lists(t, "0;0;;")) {
		t.Error(got, e)
	}
	if l[3].To[:2][1] != 6 || hs[:2][1] != (api.Handler{From: 1, To: 1, At: 1, Class: 1}) {
		t.Error("written behind the end")
	}
}
