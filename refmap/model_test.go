package refmap

import (
	"fmt"
	"math/rand"
	"reflect"
	"slices"
	"strconv"
	"strings"
	"testing"

	"crucible/api"
	"crucible/hier"
	"crucible/lattice"
	"crucible/verify"
)

// modelPack is Pack by texts of digits.
func modelPack(l []Map) (string, api.Errno) {
	text := fmt.Sprintf("%016b", len(l))
	if len(l) > 4096 {
		return "", api.ErrMany
	}
	for _, m := range l {
		if max(len(m.Locals), len(m.Stack)) > 64 {
			return "", api.ErrLong
		}
		text += fmt.Sprintf("%08b%08b", len(m.Locals), len(m.Stack)) + digits(m.Locals) + digits(m.Stack)
		for len(text)%8 != 0 {
			text += "0"
		}
	}
	var b []byte
	for eight := range slices.Chunk([]byte(text), 8) {
		n, _ := strconv.ParseUint(string(eight), 2, 8)
		b = append(b, byte(n))
	}
	return string(b), api.OK
}

// digitReader takes numbers off a text of digits, as long as there are enough.
type digitReader struct {
	text  string
	short bool
}

func (r *digitReader) take(n int) string {
	if n > len(r.text) {
		r.short = true
		return strings.Repeat("0", n)
	}
	s := r.text[:n]
	r.text = r.text[n:]
	return s
}

func (r *digitReader) number(n int) int {
	i, _ := strconv.ParseUint(r.take(n), 2, 16)
	return int(i)
}

// modelUnpack is Unpack by texts of digits.
func modelUnpack(b string) ([]Map, api.Errno) {
	var r digitReader
	for _, c := range []byte(b) {
		r.text += fmt.Sprintf("%08b", c)
	}
	count := r.number(16)
	if r.short {
		return nil, api.ErrShort
	}
	if count > 4096 {
		return nil, api.ErrMany
	}
	var l []Map
	for range count {
		locals, stack := r.number(8), r.number(8)
		if r.short {
			return nil, api.ErrShort
		}
		if locals > 64 || stack > 64 {
			return nil, api.ErrLong
		}
		m := Map{Locals: bools(r.take(locals)), Stack: bools(r.take(stack))}
		unused := r.take((1<<16 - locals - stack) % 8)
		if r.short {
			return nil, api.ErrShort
		}
		if strings.Contains(unused, "1") {
			return nil, api.ErrForm
		}
		l = append(l, m)
	}
	if r.text != "" {
		return nil, api.ErrRest
	}
	return l, api.OK
}

// checkBytes holds what Unpack makes of bytes, and that Pack makes them of it.
func checkBytes(t *testing.T, b string) api.Errno {
	t.Helper()
	l, e := Unpack(b)
	want, wantErr := modelUnpack(b)
	if e != wantErr || showAll(l) != showAll(want) {
		t.Fatalf("%.90x: %.90s, %v; want %.90s, %v", b, showAll(l), e, showAll(want), wantErr)
	}
	if e != api.OK {
		return e
	}
	if again, e := Pack(l); again != b || e != api.OK {
		t.Fatalf("%.90x: again %.90x, %v", b, again, e)
	}
	return e
}

// checkMaps holds what Pack makes of maps, and that Unpack makes them of it.
func checkMaps(t *testing.T, l []Map) {
	t.Helper()
	b, e := Pack(l)
	want, wantErr := modelPack(l)
	if b != want || e != wantErr {
		t.Fatalf("%.90s: %.90x, %v; want %.90x, %v", showAll(l), b, e, want, wantErr)
	}
	if e == api.OK {
		again, e := Unpack(b)
		if e != api.OK || len(again) != len(l) || showAll(again) != showAll(l) {
			t.Fatalf("%.90s: again %.90s, %v", showAll(l), showAll(again), e)
		}
	}
}

// chance is a source of numbers below another one.
type chance func(n int) int

func (c chance) bools(max int) []bool {
	l := make([]bool, c(max+1))
	for i := range l {
		l[i] = c(2) == 0
	}
	return l
}

func (c chance) maps() []Map {
	l := make([]Map, c(6))
	max := 10
	if c(4) == 0 {
		max = 64 + c(2)
	}
	for i := range l {
		l[i] = Map{Locals: c.bools(max), Stack: c.bools(max)}
	}
	return l
}

func TestR3Maps(t *testing.T) {
	c := chance(rand.New(rand.NewSource(1)).Intn)
	for range 10000 {
		checkMaps(t, c.maps())
	}
	// All sizes that a map may have.
	for locals := range 65 {
		for stack := range 65 {
			m := Map{Locals: make([]bool, locals), Stack: make([]bool, stack)}
			for _, bit := range m.bits() {
				*bit = c(2) == 0
			}
			checkMaps(t, []Map{m, {Stack: []bool{true}}})
		}
	}
	checkMaps(t, slices.Repeat([]Map{mapOf("101|0"), mapOf("|"), mapOf("000000000|1")}, 1365))
}

func TestR3Bytes(t *testing.T) {
	c := chance(rand.New(rand.NewSource(2)).Intn)
	count := map[api.Errno]int{}
	for range 30000 {
		s, e := Pack(c.maps())
		if e != api.OK {
			continue
		}
		b := []byte(s)
		for range c(3) {
			b[c(len(b))] ^= 1 << c(8)
		}
		switch c(6) {
		case 0:
			b = b[:c(len(b)+1)]
		case 1:
			b = append(b, make([]byte, c(3))...)
		}
		count[checkBytes(t, string(b))]++
	}
	for _, e := range []api.Errno{api.OK, api.ErrShort, api.ErrMany, api.ErrLong, api.ErrForm, api.ErrRest} {
		if count[e] == 0 {
			t.Error("none:", e, count)
		}
	}
	// All that may stand behind the head of one map.
	for x := range 1 << 16 {
		checkBytes(t, string([]byte{0, 1, byte(x % 12), byte(x / 12 % 5), byte(x >> 8), byte(x)}))
		checkBytes(t, string([]byte{0, 1, byte(x >> 8), byte(x), 0}))
	}
}

// below is one of the knowns below k, and k itself, most of the time.
func (c chance) below(h *hier.Table, all []api.Known, k api.Known) api.Known {
	for range 5 {
		if a := all[c(len(all))]; lattice.Below(h, a, k) {
			return a
		}
	}
	return k
}

// Where a state has a reference, each one below it has one.
func TestR3Below(t *testing.T) {
	h, _ := fileOf(t, "m", "()V", 1, "\x2c")
	all := []api.Known{top, number, null, this, newAt(3), newAt(4), ref(0, "A"), ref(0, "Object"), ref(0, "nowhere"), ref(1, ""), ref(1, "A"), ref(2, ""), ref(0, "Null"), ref(0, "Throwable"), {Kind: 9}, {Kind: 3}, {Kind: 5, N: 1}}
	c := chance(rand.New(rand.NewSource(3)).Intn)
	pick := func(n int) []api.Known {
		l := make([]api.Known, n)
		for i := range l {
			l[i] = all[c(len(all))]
		}
		return l
	}
	count := 0
	for range 20000 {
		b := api.State{Locals: pick(c(4)), Stack: pick(c(3))}
		a := api.State{Locals: pick(len(b.Locals)), Stack: pick(len(b.Stack))}
		for i, k := range b.Locals {
			a.Locals[i] = c.below(h, all, k)
		}
		for i, k := range b.Stack {
			a.Stack[i] = c.below(h, all, k)
		}
		a.Locals = append(a.Locals, pick(c(2))...)
		if !lattice.BelowStates(h, a, b) {
			continue
		}
		low, high := Of(a), Of(b)
		for i, is := range high.Locals {
			if is && !low.Locals[i] {
				t.Fatal("locals", a, b)
			}
		}
		for i, is := range high.Stack {
			if is && !low.Stack[i] {
				t.Fatal("stack", a, b)
			}
		}
		if !lattice.Same(a, b) {
			count++
		}
	}
	if count < 1000 {
		t.Error("too few:", count)
	}
}

// spoil overwrites all that a list has room for.
func spoil[T any](l []T, v T) {
	l = l[:cap(l)]
	for i := range l {
		l[i] = v
	}
}

// checkApart holds that no list of maps shares memory with another one; false is nowhere in them.
func checkApart(t *testing.T, l []Map) {
	t.Helper()
	want := showAll(l)
	for i := range l {
		for _, list := range []*[]bool{&l[i].Locals, &l[i].Stack} {
			kept := slices.Clone(*list)
			spoil(*list, false)
			*list = kept
			if showAll(l) != want {
				t.Fatal("shared memory:", i, showAll(l), want)
			}
		}
	}
}

func TestP3Apart(t *testing.T) {
	room := []api.Known{null, this, newAt(1), null, number, null}
	before := slices.Clone(room)
	s := api.State{Locals: room[0:2], Stack: room[1:3]}
	m := Of(s)
	checkApart(t, []Map{Of(s)})
	x := verify.Typed{L: make([]api.Instr, 3, 5), States: []api.State{s, s, s, {}}[:3], Reached: []bool{true, true, true, false}[:3]}
	l := Make(x)
	checkApart(t, l)
	spoil(l, Map{})
	if got := showAll(Make(x)); got != "11|11 11|11 11|11" {
		t.Error(got)
	}
	if !slices.Equal(room, before) || !reflect.DeepEqual(x.States, []api.State{s, s, s}) || digits(x.Reached[:4]) != "1110" {
		t.Error("an argument was changed", room, x)
	}
	clear(room)
	if got := show(m); got != "11|11" {
		t.Error(got)
	}
	b, _ := Pack(mapsOf("11|1 1| |1 111|1111 1|1"))
	l, _ = Unpack(b)
	checkApart(t, l)
	spoil(l, Map{})
	if l, e := Unpack(b); showAll(l) != "11|1 1| |1 111|1111 1|1" || e != api.OK {
		t.Error(l, e)
	}
}

// Pack reads no further than the ends of what it is given, and changes nothing.
func TestP3Behind(t *testing.T) {
	room := slices.Repeat([]bool{true, false, true}, 40)
	before := slices.Clone(room)
	l := []Map{{Locals: room[0:3], Stack: room[1:2]}, {Locals: room[:0], Stack: room[4:4]}, {Locals: make([]bool, 65)}}[:2]
	for range 2 {
		if b, e := Pack(l); b != "\x00\x02\x03\x01\xa0\x00\x00" || e != api.OK {
			t.Errorf("%x %v", b, e)
		}
	}
	if !slices.Equal(room, before) || showAll(l) != "101|0 |" {
		t.Error("an argument was changed", showAll(l))
	}
}

func FuzzMaps(f *testing.F) {
	f.Add("\x00\x03\x04\x03\x5c\x00\x00\x00\x09\x80\x80")
	f.Fuzz(func(t *testing.T, b string) {
		checkBytes(t, b)
		// The bytes as maps: of each two sizes, and then its bits.
		var l []Map
		for len(b) > 1 {
			m := Map{Locals: make([]bool, b[0]%70), Stack: make([]bool, b[1]%70)}
			b = b[2:]
			for n, bit := range m.bits() {
				*bit = n < len(b) && b[n]%2 == 1
			}
			b = b[min(len(b), len(m.Locals)+len(m.Stack)):]
			l = append(l, m)
		}
		checkMaps(t, l)
	})
}
