package arena

import (
	"math"
	"math/rand"
	"slices"
	"testing"

	"crucible/api"
)

func newArena(t testing.TB, words int) *Arena {
	t.Helper()
	a, e := New(words)
	if a == nil || e != api.OK {
		t.Fatalf("New(%d): %v, %d", words, a, e)
	}
	return a
}

func wantAlloc(t *testing.T, a *Arena, n, want int, wantErr api.Errno) {
	t.Helper()
	if got := a.Fits(n); got != (wantErr == api.OK) {
		t.Errorf("Fits(%d): %v", n, got)
	}
	if at, e := a.Alloc(n); at != want || e != wantErr {
		t.Errorf("Alloc(%d): %d, %d; want %d, %d", n, at, e, want, wantErr)
	}
}

func wantFree(t *testing.T, a *Arena, at int, want api.Errno) {
	t.Helper()
	if e := a.Free(at); e != want {
		t.Errorf("Free(%d): %d; want %d", at, e, want)
	}
}

func wantRead(t *testing.T, a *Arena, at, i, want int, wantErr api.Errno) {
	t.Helper()
	if v, e := a.Read(at, i); v != want || e != wantErr {
		t.Errorf("Read(%d, %d): %d, %d; want %d, %d", at, i, v, e, want, wantErr)
	}
}

func wantWrite(t *testing.T, a *Arena, at, i, v int, want api.Errno) {
	t.Helper()
	if e := a.Write(at, i, v); e != want {
		t.Errorf("Write(%d, %d, %d): %d; want %d", at, i, v, e, want)
	}
}

func wantSize(t *testing.T, a *Arena, at, want int) {
	t.Helper()
	if n, ok := a.Size(at); n != want || ok != (want != 0) {
		t.Errorf("Size(%d): %d, %v; want %d", at, n, ok, want)
	}
}

func wantUsed(t *testing.T, a *Arena, want ...int) {
	t.Helper()
	if l := a.Used(); !slices.Equal(l, want) {
		t.Errorf("Used: %v; want %v", l, want)
	}
}

func wantWords(t *testing.T, a *Arena, used, free int) {
	t.Helper()
	if u, f := a.Words(); u != used || f != free {
		t.Errorf("Words: %d, %d; want %d, %d", u, f, used, free)
	}
}

// wantRaw fails unless the words from a place on are these.
func wantRaw(t *testing.T, a *Arena, from int, want ...int) {
	t.Helper()
	for i, w := range want {
		if v, ok := a.Raw(from + i); v != w || !ok {
			t.Errorf("Raw(%d): %d, %v; want %d", from+i, v, ok, w)
		}
	}
}

// run is n times a word.
func run(n, word int) []int { return slices.Repeat([]int{word}, n) }

// wild are numbers that are no address and no size.
var wild = []int{math.MinInt, math.MinInt + 1, -1 << 32, -api.MaxHeap, -2, -1, api.MaxHeap + 1, 1 << 31, 1 << 32, 1<<32 + 1, 1 << 62, math.MaxInt - 1, math.MaxInt}

func TestA51New(t *testing.T) {
	for _, words := range []int{16, 17, 20, 255, 4096, api.MaxHeap - 1, api.MaxHeap} {
		a := newArena(t, words)
		wantRaw(t, a, 0, 0, 2*(words-1))
		wantRaw(t, a, 2, run(words-2, -6148914691236517206)...)
		wantWords(t, a, 0, words-1)
		wantUsed(t, a)
		if _, ok := a.Raw(words); ok {
			t.Error("too many words", words)
		}
	}
	for _, words := range append([]int{0, 1, 2, 15, api.MaxHeap + 1}, wild...) {
		if a, e := New(words); a != nil || e != api.ErrArg {
			t.Errorf("New(%d): %v, %d", words, a, e)
		}
	}
}

func TestA52Examples(t *testing.T) {
	a := newArena(t, 20)
	wantAlloc(t, a, 3, 1, api.OK)
	wantAlloc(t, a, 2, 5, api.OK)
	wantRaw(t, a, 0, 0, 9, 0, 0, 0, 7, 0, 0, 24, Poison)
}

func TestA52Errors(t *testing.T) {
	a := newArena(t, 20)
	for _, n := range append([]int{0, api.MaxHeap + 1}, wild...) {
		wantAlloc(t, a, n, 0, api.ErrArg)
	}
	for _, n := range []int{19, 20, api.MaxHeap - 1, api.MaxHeap} {
		wantAlloc(t, a, n, 0, api.ErrFull)
	}
	wantRaw(t, a, 1, append([]int{38}, run(18, Poison)...)...)
	wantAlloc(t, a, 18, 1, api.OK)
	wantAlloc(t, a, 0, 0, api.ErrArg)
	wantAlloc(t, a, 1, 0, api.ErrFull)
	a = newArena(t, api.MaxHeap)
	wantAlloc(t, a, api.MaxHeap-1, 0, api.ErrFull)
	wantAlloc(t, a, api.MaxHeap-2, 1, api.OK)
	wantWords(t, a, api.MaxHeap-1, 0)
}

// A block is divided where its body has at least two words more than asked for.
func TestA52Divided(t *testing.T) {
	for _, c := range []struct{ n, body int }{{1, 1}, {15, 15}, {16, 16}, {17, 18}, {18, 18}} {
		a := newArena(t, 20)
		wantAlloc(t, a, c.n, 1, api.OK)
		wantSize(t, a, 1, c.body)
		wantWords(t, a, c.body+1, 18-c.body)
		wantRaw(t, a, 1, append([]int{2*(c.body+1) + 1}, run(c.body, 0)...)...)
		if rest := 18 - c.body; rest > 0 {
			wantRaw(t, a, c.body+2, append([]int{2 * rest}, run(rest-1, Poison)...)...)
		}
	}
}

// holes is an arena with free blocks of these sizes in this order, and between and behind them used ones.
func holes(t *testing.T, sizes ...int) (*Arena, []int) {
	t.Helper()
	words := 3
	for _, size := range sizes {
		words += size + 2
	}
	a := newArena(t, max(words, minHeap))
	var l []int
	for _, size := range sizes {
		at, _ := a.Alloc(size - 1)
		a.Alloc(1)
		l = append(l, at)
	}
	for a.Fits(1) {
		a.Alloc(1)
	}
	for _, at := range l {
		wantFree(t, a, at, api.OK)
	}
	return a, l
}

func TestA52Chosen(t *testing.T) {
	for _, c := range []struct {
		sizes  []int
		n, hit int
	}{
		{[]int{9, 5, 7}, 1, 1},
		{[]int{9, 5, 7}, 4, 1},
		{[]int{9, 5, 7}, 5, 2},
		{[]int{9, 5, 7}, 6, 2},
		{[]int{9, 5, 7}, 7, 0},
		{[]int{9, 5, 7}, 8, 0},
		{[]int{9, 5, 7}, 9, -1},
		{[]int{6, 6, 6}, 5, 0},
		{[]int{7, 6, 6}, 3, 1},
		{[]int{7, 6, 5}, 3, 2},
		{[]int{5, 6, 7}, 5, 1},
		{[]int{17, 16, 15, 16}, 15, 1},
		{[]int{17, 16, 15, 16}, 16, 0},
		{[]int{2, 300, 2, 299}, 2, 3},
		{[]int{300, 2, 3, 2}, 1, 1},
		{[]int{300, 2, 3, 2}, 2, 2},
	} {
		a, l := holes(t, c.sizes...)
		if c.hit < 0 {
			wantAlloc(t, a, c.n, 0, api.ErrFull)
			continue
		}
		wantAlloc(t, a, c.n, l[c.hit], api.OK)
	}
}

// Of blocks of one size, the one at the least address is taken, in whatever order they were freed.
func TestA52Least(t *testing.T) {
	a, l := holes(t, slices.Repeat([]int{4}, 50)...)
	for _, at := range l {
		wantAlloc(t, a, 3, at, api.OK)
	}
	for i := range l {
		wantFree(t, a, l[i*37%50], api.OK)
	}
	for _, at := range l {
		wantAlloc(t, a, 3, at, api.OK)
	}
	wantAlloc(t, a, 1, 0, api.ErrFull)
}

// A block that was written and freed is all 0 when it is allocated again.
func TestA52Zero(t *testing.T) {
	a := newArena(t, 20)
	wantAlloc(t, a, 5, 1, api.OK)
	for i := range 5 {
		wantWrite(t, a, 1, i, -i-1, api.OK)
	}
	wantFree(t, a, 1, api.OK)
	wantAlloc(t, a, 5, 1, api.OK)
	wantRaw(t, a, 1, 13, 0, 0, 0, 0, 0, 26)
}

// four is an arena of four used blocks, of 3 words each, and a free one of 7.
func four(t *testing.T) *Arena {
	t.Helper()
	a := newArena(t, 20)
	for i := range 4 {
		wantAlloc(t, a, 2, 1+3*i, api.OK)
		wantWrite(t, a, 1+3*i, 0, 7, api.OK)
	}
	return a
}

func TestA53Merged(t *testing.T) {
	whole := append([]int{38}, run(18, Poison)...)
	for _, c := range []struct {
		free []int
		want []int
	}{
		{[]int{4}, []int{7, 7, 0, 6, Poison, Poison, 7, 7, 0, 7, 7, 0, 14, Poison}},
		{[]int{1}, []int{6, Poison, Poison, 7, 7, 0, 7, 7, 0, 7, 7, 0, 14, Poison}},
		{[]int{10}, []int{7, 7, 0, 7, 7, 0, 7, 7, 0, 20, Poison, Poison, Poison, Poison}},
		{[]int{4, 7}, []int{7, 7, 0, 12, Poison, Poison, Poison, Poison, Poison, 7, 7, 0, 14, Poison}},
		{[]int{7, 4}, []int{7, 7, 0, 12, Poison, Poison, Poison, Poison, Poison, 7, 7, 0, 14, Poison}},
		{[]int{1, 7}, []int{6, Poison, Poison, 7, 7, 0, 6, Poison, Poison, 7, 7, 0, 14, Poison}},
		{[]int{1, 7, 4}, []int{18, Poison, Poison, Poison, Poison, Poison, Poison, Poison, Poison, 7, 7, 0, 14, Poison}},
		{[]int{1, 4, 7, 10}, whole},
		{[]int{10, 7, 4, 1}, whole},
		{[]int{1, 10, 4, 7}, whole},
		{[]int{7, 1, 10, 4}, whole},
	} {
		a := four(t)
		for _, at := range c.free {
			wantFree(t, a, at, api.OK)
		}
		wantRaw(t, a, 1, c.want...)
		for _, at := range c.free {
			wantFree(t, a, at, api.ErrNone)
		}
		wantWords(t, a, 12-3*len(c.free), 7+3*len(c.free))
		wantRaw(t, a, 1, c.want...)
	}
}

func TestA53None(t *testing.T) {
	a := four(t)
	wantFree(t, a, 7, api.OK)
	for at := range 25 {
		if at != 1 && at != 4 && at != 10 {
			wantFree(t, a, at, api.ErrNone)
		}
	}
	for _, at := range wild {
		wantFree(t, a, at, api.ErrNone)
	}
	wantUsed(t, a, 1, 4, 10)
}

// A word of a body that looks like a head is none.
func TestA53LooksLikeHead(t *testing.T) {
	a := newArena(t, 20)
	wantAlloc(t, a, 6, 1, api.OK)
	wantAlloc(t, a, 2, 8, api.OK)
	for i := range 6 {
		wantWrite(t, a, 1, i, 7, api.OK)
		wantWrite(t, a, 1, i, 6+i%2, api.OK)
	}
	for at := 2; at < 8; at++ {
		wantFree(t, a, at, api.ErrNone)
		wantRead(t, a, at, 0, 0, api.ErrNone)
		wantSize(t, a, at, 0)
	}
	wantFree(t, a, 8, api.OK)
	wantRaw(t, a, 1, 15, 6, 7, 6, 7, 6, 7, 24, Poison)
}

// What was the head of a block that has been merged is no address any more.
func TestA53OldHead(t *testing.T) {
	a := four(t)
	for _, at := range []int{1, 7, 4} {
		wantFree(t, a, at, api.OK)
	}
	wantAlloc(t, a, 8, 1, api.OK)
	for i := range 8 {
		wantWrite(t, a, 1, i, 7, api.OK)
	}
	wantFree(t, a, 4, api.ErrNone)
	wantFree(t, a, 7, api.ErrNone)
	wantRead(t, a, 7, 0, 0, api.ErrNone)
	wantUsed(t, a, 1, 10)
}

func TestA54ReadAndWrite(t *testing.T) {
	a := newArena(t, 20)
	wantAlloc(t, a, 3, 1, api.OK)
	wantAlloc(t, a, 2, 5, api.OK)
	for i, v := range []int{math.MinInt, math.MaxInt, Poison} {
		wantRead(t, a, 1, i, 0, api.OK)
		wantWrite(t, a, 1, i, v, api.OK)
		wantRead(t, a, 1, i, v, api.OK)
		wantRaw(t, a, 2+i, v)
	}
	wantRaw(t, a, 1, 9, math.MinInt, math.MaxInt, Poison, 7, 0, 0)
	for _, i := range append([]int{3, 4, 19}, wild...) {
		wantRead(t, a, 1, i, 0, api.ErrArg)
		wantWrite(t, a, 1, i, 5, api.ErrArg)
	}
	for _, at := range append([]int{0, 2, 3, 4, 6, 8, 9, 19, 20, 21}, wild...) {
		for _, i := range append([]int{0, 3}, wild...) {
			wantRead(t, a, at, i, 0, api.ErrNone)
			wantWrite(t, a, at, i, 5, api.ErrNone)
		}
	}
	wantRaw(t, a, 0, append([]int{0, 9, math.MinInt, math.MaxInt, Poison, 7, 0, 0, 24}, run(11, Poison)...)...)
}

func TestA54Size(t *testing.T) {
	a := newArena(t, 20)
	wantAlloc(t, a, 17, 1, api.OK)
	wantSize(t, a, 1, 18)
	wantRead(t, a, 1, 17, 0, api.OK)
	wantRead(t, a, 1, 18, 0, api.ErrArg)
	wantFree(t, a, 1, api.OK)
	for _, at := range append([]int{0, 1, 2, 19, 20}, wild...) {
		wantSize(t, a, at, 0)
	}
}

func TestA54Used(t *testing.T) {
	a := newArena(t, 20)
	wantUsed(t, a)
	for _, n := range []int{3, 2, 1} {
		a.Alloc(n)
	}
	wantUsed(t, a, 1, 5, 8)
	wantFree(t, a, 5, api.OK)
	wantUsed(t, a, 1, 8)
	wantFree(t, a, 1, api.OK)
	wantUsed(t, a, 8)
}

func TestA54Words(t *testing.T) {
	a := newArena(t, 20)
	wantWords(t, a, 0, 19)
	a.Alloc(3)
	wantWords(t, a, 4, 15)
	a.Alloc(2)
	wantWords(t, a, 7, 12)
	wantFree(t, a, 1, api.OK)
	wantWords(t, a, 3, 16)
}

func TestA54Fits(t *testing.T) {
	a := newArena(t, 20)
	for n := 1; n <= 18; n++ {
		if !a.Fits(n) {
			t.Error(n)
		}
	}
	for _, n := range append([]int{0, 19, 20, api.MaxHeap}, wild...) {
		if a.Fits(n) {
			t.Error(n)
		}
	}
	wantRaw(t, a, 1, append([]int{38}, run(18, Poison)...)...)
	a, _ = holes(t, 5, 9, 7)
	if !a.Fits(8) || a.Fits(9) {
		t.Error("the greatest free block")
	}
}

func TestA54Raw(t *testing.T) {
	a := newArena(t, 20)
	wantRaw(t, a, 0, 0, 38, Poison)
	wantRaw(t, a, 19, Poison)
	for _, i := range append([]int{20, 21}, wild...) {
		if v, ok := a.Raw(i); v != 0 || ok {
			t.Errorf("Raw(%d): %d, %v", i, v, ok)
		}
	}
}

func TestExamples(t *testing.T) {
	a := newArena(t, 20)
	wantRaw(t, a, 1, 38, Poison)
	wantWords(t, a, 0, 19)
	wantAlloc(t, a, 3, 1, api.OK)
	wantAlloc(t, a, 2, 5, api.OK)
	wantRaw(t, a, 1, 9)
	wantUsed(t, a, 1, 5)
	wantWords(t, a, 7, 12)
	wantWrite(t, a, 1, 2, 7, api.OK)
	wantRead(t, a, 1, 2, 7, api.OK)
	wantRead(t, a, 1, 3, 0, api.ErrArg)
	wantRead(t, a, 2, 0, 0, api.ErrNone)
	wantFree(t, a, 1, api.OK)
	wantAlloc(t, a, 2, 1, api.OK)
	wantAlloc(t, a, 1, 8, api.OK)
	wantAlloc(t, a, 20, 0, api.ErrFull)
	wantSize(t, a, 1, 3)
}

// plain is an arena as the document tells it, without anything to make it fast.
type plain struct {
	words []int
}

func newPlain(words int) *plain {
	return &plain{append([]int{0, 2 * (words - 1)}, run(words-2, Poison)...)}
}

// blocks are the addresses of all blocks of a state.
func (p *plain) blocks(state int) []int {
	var l []int
	for at := 1; at < len(p.words); at += p.words[at] / 2 {
		if p.words[at]%2 == state {
			l = append(l, at)
		}
	}
	return l
}

func (p *plain) sum(state int) int {
	sum := 0
	for _, at := range p.blocks(state) {
		sum += p.words[at] / 2
	}
	return sum
}

func (p *plain) alloc(n int) (int, api.Errno) {
	if n < 1 || n > 1048576 {
		return 0, api.ErrArg
	}
	found := 0
	for _, at := range p.blocks(0) {
		if body := p.words[at]/2 - 1; body >= n && (found == 0 || p.words[at] < p.words[found]) {
			found = at
		}
	}
	if found == 0 {
		return 0, api.ErrFull
	}
	body := p.words[found]/2 - 1
	if body >= n+2 {
		p.words[found+1+n] = 2 * (body - n)
		body = n
	}
	p.words[found] = 2*(body+1) + 1
	copy(p.words[found+1:], run(body, 0))
	return found, api.OK
}

func (p *plain) free(at int) api.Errno {
	if !slices.Contains(p.blocks(1), at) {
		return api.ErrNone
	}
	p.words[at]--
	copy(p.words[at+1:], run(p.words[at]/2-1, Poison))
	l := p.blocks(0)
	for i := len(l) - 1; i > 0; i-- {
		if l[i-1]+p.words[l[i-1]]/2 == l[i] {
			p.words[l[i-1]] += p.words[l[i]]
			p.words[l[i]] = Poison
		}
	}
	return api.OK
}

func (p *plain) read(at, i int) (int, api.Errno) {
	switch {
	case !slices.Contains(p.blocks(1), at):
		return 0, api.ErrNone
	case i < 0 || i >= p.words[at]/2-1:
		return 0, api.ErrArg
	}
	return p.words[at+1+i], api.OK
}

// both is an arena and a plain one, on which the same is done.
type both struct {
	t testing.TB
	a *Arena
	p *plain
}

func newBoth(t testing.TB, words int) both { return both{t, newArena(t, words), newPlain(words)} }

func (b both) alloc(n int) {
	b.t.Helper()
	fits := b.a.Fits(n)
	at, e := b.a.Alloc(n)
	if want, wantErr := b.p.alloc(n); at != want || e != wantErr || fits != (e == api.OK) {
		b.t.Fatalf("Alloc(%d): %d, %d (Fits: %v); want %d, %d", n, at, e, fits, want, wantErr)
	}
}

func (b both) free(at int) {
	b.t.Helper()
	if e, want := b.a.Free(at), b.p.free(at); e != want {
		b.t.Fatalf("Free(%d): %d; want %d", at, e, want)
	}
}

func (b both) write(at, i, v int) {
	b.t.Helper()
	_, want := b.p.read(at, i)
	if want == api.OK {
		b.p.words[at+1+i] = v
	}
	if e := b.a.Write(at, i, v); e != want {
		b.t.Fatalf("Write(%d, %d, %d): %d; want %d", at, i, v, e, want)
	}
}

// check holds what there is to be seen of the two against each other, and against A5.5.
func (b both) check() {
	b.t.Helper()
	words := len(b.p.words)
	for i := range words {
		if v, ok := b.a.Raw(i); v != b.p.words[i] || !ok {
			b.t.Fatalf("Raw(%d): %d, %v; want %d", i, v, ok, b.p.words[i])
		}
	}
	used := b.p.blocks(1)
	if l := b.a.Used(); !slices.Equal(l, used) {
		b.t.Fatalf("Used: %v; want %v", l, used)
	}
	u, f := b.a.Words()
	if u != b.p.sum(1) || f != b.p.sum(0) || u+f != words-1 {
		b.t.Fatalf("Words: %d, %d", u, f)
	}
	if v, _ := b.a.Raw(1); u == 0 && v != 2*(words-1) {
		b.t.Fatalf("all is free, but not one block: %d", v)
	}
	free := b.p.blocks(0)
	for i, at := range free {
		if i > 0 && free[i-1]+b.p.words[free[i-1]]/2 == at {
			b.t.Fatalf("free blocks are adjacent: %v", free)
		}
	}
	for _, at := range []int{-1, 0, 1, 2, words / 2, words - 2, words - 1, words} {
		v, e := b.a.Read(at, 0)
		want, wantErr := b.p.read(at, 0)
		if n, ok := b.a.Size(at); v != want || e != wantErr || ok != (e == api.OK) || ok && n != b.p.words[at]/2-1 {
			b.t.Fatalf("block %d: Read %d, %d; Size %d, %v", at, v, e, n, ok)
		}
	}
}

// play does what bytes say, two by two.
func (b both) play(calls string) {
	b.t.Helper()
	words := len(b.p.words)
	for ; len(calls) >= 2; calls = calls[2:] {
		n := int(calls[1])
		used := b.p.blocks(1)
		switch at := n % (words + 1); {
		case calls[0]%8 < 3:
			b.alloc(n % 12)
		case calls[0]%8 == 3:
			b.alloc(n)
		case calls[0]%8 < 6 && len(used) > 0:
			b.free(used[n%len(used)])
		case calls[0]%8 == 6:
			b.free(at)
		default:
			b.write(at, n%5-1, n)
		}
		b.check()
	}
}

// All sequences of some calls, on the smallest arena.
func TestA55AllShort(t *testing.T) {
	calls := []string{"\x00\x01", "\x00\x02", "\x00\x04", "\x03\x0c", "\x04\x00", "\x04\x01", "\x04\x02"}
	var walk func(s string)
	walk = func(s string) {
		if len(s) == 12 {
			newBoth(t, 16).play(s)
			return
		}
		for _, c := range calls {
			walk(s + c)
		}
	}
	walk("")
}

func TestA55Long(t *testing.T) {
	for seed := range int64(60) {
		r := rand.New(rand.NewSource(seed))
		calls := make([]byte, 2000)
		r.Read(calls)
		newBoth(t, 16+r.Intn(200)).play(string(calls))
	}
}

// Blocks of all kinds of sizes, taken and freed in an order that leaves many lists with something in them.
func TestA55Large(t *testing.T) {
	r := rand.New(rand.NewSource(1))
	b := newBoth(t, 20000)
	for range 3000 {
		if l := b.p.blocks(1); len(l) > 0 && r.Intn(5) < 2 {
			b.free(l[r.Intn(len(l))])
		} else {
			b.alloc(1 + r.Intn(1<<r.Intn(12)))
		}
	}
	b.check()
	for _, i := range r.Perm(20001) {
		b.free(i)
	}
	b.check()
}

// As many blocks as there can be: no call may go through all of them. Every other block is freed, in an order that is neither up nor down.
func TestA55Most(t *testing.T) {
	a := newArena(t, api.MaxHeap)
	const blocks = api.MaxHeap/2 - 1
	for i := range blocks {
		if at, e := a.Alloc(1); at != 1+2*i || e != api.OK {
			t.Fatal(i, at, e)
		}
	}
	wantWords(t, a, api.MaxHeap-1, 0)
	wantSize(t, a, 2*blocks-1, 2)
	r := rand.New(rand.NewSource(2))
	order := r.Perm(blocks / 2)
	for round := range 2 {
		for _, i := range order {
			if e := a.Free(1 + 4*i); e != api.OK {
				t.Fatal(i, e)
			}
		}
		for i := range order {
			if at, e := a.Alloc(1); at != 1+4*i || e != api.OK {
				t.Fatal(round, i, at, e)
			}
		}
	}
	for _, i := range r.Perm(blocks) {
		if e := a.Free(1 + 2*i); e != api.OK {
			t.Fatal(i, e)
		}
	}
	wantWords(t, a, 0, api.MaxHeap-1)
	wantRaw(t, a, 0, append([]int{0, 2 * (api.MaxHeap - 1)}, run(api.MaxHeap-2, Poison)...)...)
	wantAlloc(t, a, api.MaxHeap-2, 1, api.OK)
}

func FuzzCalls(f *testing.F) {
	f.Add(byte(4), "\x00\x03\x00\x02\x04\x00\x00\x02\x00\x01\x03\x14")
	f.Add(byte(0), "\x00\x01\x00\x01\x00\x01\x04\x01\x04\x00\x06\x05\x07\x01")
	f.Fuzz(func(t *testing.T, more byte, calls string) { newBoth(t, 16+int(more)).play(calls) })
}

func TestP3Used(t *testing.T) {
	a := four(t)
	l, m := a.Used(), a.Used()
	for i := range l[:cap(l)] {
		l[:cap(l)][i] = -99
	}
	if !slices.Equal(m, []int{1, 4, 7, 10}) {
		t.Error("two answers share memory", m)
	}
	wantUsed(t, a, 1, 4, 7, 10)
	wantRaw(t, a, 1, 7, 7, 0, 7)
}

func TestP4Apart(t *testing.T) {
	a, b := four(t), newArena(t, 20)
	wantUsed(t, b)
	wantAlloc(t, b, 18, 1, api.OK)
	wantUsed(t, a, 1, 4, 7, 10)
	wantAlloc(t, a, 6, 13, api.OK)
}
