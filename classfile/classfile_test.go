package classfile

import (
	"encoding/binary"
	"encoding/hex"
	"fmt"
	"math"
	"slices"
	"strings"
	"testing"

	"crucible/api"
	"crucible/mutf"
)

// Constants of the sample, by their numbers.
const (
	nameA, classA, nameObject, classObject = 1, 2, 3, 4
	nameX, descI, descV, nameInit          = 5, 6, 7, 8
	intTwo, fieldX, methodInit, textX      = 9, 10, 11, 12
	typeI, nameClinit, descIV, otherX      = 13, 14, 15, 16
	noName, textNoName, descMany, lastName = 17, 18, 19, 20
)

// Methods of the sample, by their indices.
const (
	mInit, mClinit, mAbstract, mBody = 0, 1, 2, 3
)

// sample is a file with each kind of constant and member.
func sample() api.File {
	return api.File{
		Pool: []api.Const{
			{Tag: 1, Text: "A"}, {Tag: 4, A: nameA}, {Tag: 1, Text: "Object"}, {Tag: 4, A: nameObject},
			{Tag: 1, Text: "x"}, {Tag: 1, Text: "I"}, {Tag: 1, Text: "()V"}, {Tag: 1, Text: "<init>"},
			{Tag: 2, N: -2}, {Tag: 5, A: classA, B: nameX, C: descI}, {Tag: 6, A: classObject, B: nameInit, C: descV}, {Tag: 3, A: nameX},
			{Tag: 7, A: descI}, {Tag: 1, Text: "<clinit>"}, {Tag: 1, Text: "(I)V"}, {Tag: 1, Text: "x"},
			{Tag: 1, Text: "é\x00 \U0001f600"}, {Tag: 3, A: noName}, {Tag: 1, Text: "(" + strings.Repeat("I", 17) + ")V"}, {Tag: 1, Text: ""},
		},
		Flags:  2,
		This:   classA,
		Super:  classObject,
		Ifaces: []int{classObject, classA},
		Fields: []api.Member{{Name: nameX, Desc: descI}, {Flags: 1, Name: nameA, Desc: descI}},
		Methods: []api.Member{
			{Name: nameInit, Desc: descV, MaxStack: 1, MaxLocals: 2, Code: "\x2c"},
			{Flags: 1, Name: nameClinit, Desc: descV, Code: "\x00\xff"},
			{Flags: 2, Name: nameX, Desc: descV},
			{Flags: 1, Name: otherX, Desc: descIV, MaxStack: 64, MaxLocals: 3, Code: "abcd", Handlers: []api.Handler{{From: 0, To: 4, At: 3, Class: classObject}, {From: 1, To: 2, At: 0, Class: 0}}},
		},
	}
}

// sampleHex are the sample's bytes.
const sampleHex = "43525558 0014" +
	"01 0001 41  04 0001  01 0006 4f626a656374  04 0003" +
	"01 0001 78  01 0001 49  01 0003 282956  01 0006 3c696e69743e" +
	"02 fffffffffffffffe  05 0002 0005 0006  06 0004 0008 0007  03 0005" +
	"07 0006  01 0008 3c636c696e69743e  01 0004 28492956  01 0001 78" +
	"01 000b c3a9c08020eda0bdedb880  03 0011  01 0014 284949494949494949494949494949494949 2956  01 0000" +
	"02 0002 0004 02 0004 0002" +
	"02  00 0005 0006  01 0001 0006" +
	"04  00 0008 0007 01 02 0001 2c 00" +
	"    01 000e 0007 00 00 0002 00ff 00" +
	"    02 0005 0007" +
	"    01 0010 000f 40 03 0004 61626364 02  0000 0004 0003 0004  0001 0002 0000 0000"

func sampleBytes(t testing.TB) string {
	t.Helper()
	b, err := hex.DecodeString(strings.ReplaceAll(sampleHex, " ", ""))
	if err != nil {
		t.Fatal(err)
	}
	return string(b)
}

// raw is the bytes of a file, be it right or not, written by the library. Numbers are cut to their bytes.
func raw(f api.File) string {
	link := func(b []byte, links ...int) []byte {
		for _, i := range links {
			b = binary.BigEndian.AppendUint16(b, uint16(i))
		}
		return b
	}
	head := func(b []byte, m api.Member) []byte { return link(append(b, byte(m.Flags)), m.Name, m.Desc) }
	b := link([]byte("CRUX"), len(f.Pool))
	for _, c := range f.Pool {
		b = append(b, byte(c.Tag))
		switch c.Tag {
		case 1:
			s, e := mutf.Encode(c.Text)
			if e != api.OK {
				s = c.Text
			}
			b = append(link(b, len(s)), s...)
		case 2:
			b = binary.BigEndian.AppendUint64(b, uint64(c.N))
		case 5, 6:
			b = link(b, c.A, c.B, c.C)
		default:
			b = link(b, c.A)
		}
	}
	b = append(link(append(b, byte(f.Flags)), f.This, f.Super), byte(len(f.Ifaces)))
	b = append(link(b, f.Ifaces...), byte(len(f.Fields)))
	for _, m := range f.Fields {
		b = head(b, m)
	}
	b = append(b, byte(len(f.Methods)))
	for _, m := range f.Methods {
		b = head(b, m)
		if m.Flags == 2 {
			continue
		}
		b = append(link(append(b, byte(m.MaxStack), byte(m.MaxLocals)), len(m.Code)), m.Code...)
		b = append(b, byte(len(m.Handlers)))
		for _, h := range m.Handlers {
			b = link(b, h.From, h.To, h.At, h.Class)
		}
	}
	return string(b)
}

// tell is a file as a text, the same for equal files.
func tell(f api.File) string { return fmt.Sprintf("%+q", fmt.Sprintf("%+v", f)) }

// checkFile holds Right, Encode and Parse of a file against the error that it has.
func checkFile(t *testing.T, what string, f api.File, want api.Errno) {
	t.Helper()
	before := tell(f)
	if e := Right(f); e != want {
		t.Errorf("%s: Right is %d, want %d", what, e, want)
	}
	b, e := Encode(f)
	if e != want || e != api.OK && b != "" {
		t.Errorf("%s: Encode: %d bytes, %d, want %d", what, len(b), e, want)
	}
	if tell(f) != before {
		t.Errorf("%s: the file was changed", what)
	}
	if e != api.OK {
		return
	}
	if b != raw(f) {
		t.Errorf("%s: Encode is %x, want %x", what, b, raw(f))
	}
	if g, e := Parse(b); e != api.OK || tell(g) != before {
		t.Errorf("%s: Parse of Encode is %.2000s, %d; want %.2000s", what, tell(g), e, before)
	}
}

// checkParse fails unless Parse answers that error, and nothing beside it.
func checkParse(t *testing.T, what, b string, want api.Errno) {
	t.Helper()
	f, e := Parse(b)
	if e != want || e != api.OK && tell(f) != tell(api.File{}) {
		t.Errorf("%s: Parse: %.200s, %d, want %d", what, tell(f), e, want)
	}
}

// fault breaks the sample: by what it sets, how, and with which error.
type fault struct {
	sets string
	turn func(f *api.File)
	want api.Errno
}

func (c fault) of(f api.File) api.File {
	c.turn(&f)
	return f
}

// poolFaults are faults of the constants, in the order in which they are found.
func poolFaults() []fault {
	return []fault{
		{"pool", func(f *api.File) { f.Pool = append(f.Pool, make([]api.Const, 2001-len(f.Pool))...) }, api.ErrMany},
		{"c1.Tag", func(f *api.File) { f.Pool[nameA-1] = api.Const{Tag: 8, A: 1} }, api.ErrPool},
		{"c2.N", func(f *api.File) { f.Pool[classA-1].N = 1 }, api.ErrPool},
		{"c1.Text", func(f *api.File) { f.Pool[nameA-1].Text = "a b" }, api.ErrName},
		{"c9.A", func(f *api.File) { f.Pool[intTwo-1].A = nameA }, api.ErrPool},
		{"c10.A", func(f *api.File) { f.Pool[fieldX-1].A = nameA }, api.ErrPool},
		{"c10.B", func(f *api.File) { f.Pool[fieldX-1].B = noName }, api.ErrName},
		{"c10.C", func(f *api.File) { f.Pool[fieldX-1].C = descV }, api.ErrDesc},
		{"c11.A", func(f *api.File) { f.Pool[methodInit-1].A = intTwo }, api.ErrPool},
		{"c11.B", func(f *api.File) { f.Pool[methodInit-1].B = lastName }, api.ErrName},
		{"c11.C", func(f *api.File) { f.Pool[methodInit-1].C = descI }, api.ErrDesc},
		{"c11.C", func(f *api.File) { f.Pool[methodInit-1].C = descMany }, api.ErrMany},
		{"c12.B", func(f *api.File) { f.Pool[textX-1].B = nameX }, api.ErrPool},
		{"c13.A", func(f *api.File) { f.Pool[typeI-1].A = nameX }, api.ErrDesc},
		{"c17.Text", func(f *api.File) { f.Pool[noName-1].Text = "a\xff" }, api.ErrForm},
		{"c20.Text", func(f *api.File) { f.Pool[lastName-1].Text = strings.Repeat("é", 2001) }, api.ErrLong},
	}
}

// classFaults are faults of the class, likewise.
func classFaults() []fault {
	return []fault{
		{"Flags", func(f *api.File) { f.Flags = 1 }, api.ErrFlags},
		{"This", func(f *api.File) { f.This = nameA }, api.ErrPool},
		{"Super", func(f *api.File) { f.Super = nameA }, api.ErrPool},
		{"Ifaces", func(f *api.File) { f.Ifaces = append(f.Ifaces, slices.Repeat([]int{classA}, 15)...) }, api.ErrMany},
		{"Ifaces[1]", func(f *api.File) { f.Ifaces[1] = 0 }, api.ErrPool},
	}
}

// fieldFaults are faults of the fields, likewise.
func fieldFaults() []fault {
	return []fault{
		{"Fields", func(f *api.File) { f.Fields = append(f.Fields, make([]api.Member, 199)...) }, api.ErrMany},
		{"f0.Flags", func(f *api.File) { f.Fields[0].Flags = 2 }, api.ErrFlags},
		{"f0.Desc", func(f *api.File) { f.Fields[0].Desc = classA }, api.ErrPool},
		{"f0.Name", func(f *api.File) { f.Fields[0].Name = intTwo }, api.ErrPool},
		{"f0.Name", func(f *api.File) { f.Fields[0].Name = noName }, api.ErrName},
		{"f0.Desc", func(f *api.File) { f.Fields[0].Desc = descV }, api.ErrDesc},
		{"f0.MaxStack", func(f *api.File) { f.Fields[0].MaxStack = 1 }, api.ErrArg},
		{"f0.MaxLocals", func(f *api.File) { f.Fields[0].MaxLocals = -1 }, api.ErrArg},
		{"f0.Code", func(f *api.File) { f.Fields[0].Code = "\x00" }, api.ErrArg},
		{"f0.Handlers", func(f *api.File) { f.Fields[0].Handlers = make([]api.Handler, 1) }, api.ErrArg},
		{"f1.MaxStack", func(f *api.File) { f.Fields[1].MaxStack = 1 }, api.ErrArg},
		{"f1.Name", func(f *api.File) { f.Fields[1].Name = otherX }, api.ErrTwice},
	}
}

// methodFaults are faults of the methods, likewise.
func methodFaults() []fault {
	return []fault{
		{"Methods", func(f *api.File) { f.Methods = append(f.Methods, make([]api.Member, 197)...) }, api.ErrMany},
		{"m0.Desc", func(f *api.File) { f.Methods[mInit].Desc = 0 }, api.ErrPool},
		{"m0.Name", func(f *api.File) { f.Methods[mInit].Name = lastName }, api.ErrName},
		{"m0.Desc", func(f *api.File) { f.Methods[mInit].Desc = descI }, api.ErrDesc},
		{"m0.Desc", func(f *api.File) { f.Methods[mInit].Desc = descMany }, api.ErrMany},
		{"m0.Flags", func(f *api.File) { f.Methods[mInit].Flags = 1 }, api.ErrFlags},
		{"m0.MaxStack", func(f *api.File) { f.Methods[mInit].MaxStack = 65 }, api.ErrOver},
		{"m1.Flags", func(f *api.File) { f.Methods[mClinit].Flags = 3 }, api.ErrFlags},
		{"m1.Desc", func(f *api.File) { f.Methods[mClinit].Desc = descIV }, api.ErrFlags},
		{"m1.MaxLocals", func(f *api.File) { f.Methods[mClinit].MaxLocals = -1 }, api.ErrOver},
		{"m1.Code", func(f *api.File) { f.Methods[mClinit].Code = "" }, api.ErrShort},
		{"m2.Name", func(f *api.File) { f.Methods[mAbstract].Name = nameClinit }, api.ErrFlags},
		{"m2.MaxStack", func(f *api.File) { f.Methods[mAbstract].MaxStack = 65 }, api.ErrArg},
		{"m2.MaxLocals", func(f *api.File) { f.Methods[mAbstract].MaxLocals = -1 }, api.ErrArg},
		{"m2.Code", func(f *api.File) { f.Methods[mAbstract].Code = "\x00" }, api.ErrArg},
		{"m2.Handlers", func(f *api.File) { f.Methods[mAbstract].Handlers = make([]api.Handler, 33) }, api.ErrArg},
		{"m3.MaxLocals", func(f *api.File) { f.Methods[mBody].MaxLocals = 65 }, api.ErrOver},
		{"m3.Code", func(f *api.File) { f.Methods[mBody].Code = strings.Repeat("a", 4097) }, api.ErrLong},
		{"m3.Handlers", func(f *api.File) {
			f.Methods[mBody].Handlers = append(f.Methods[mBody].Handlers, make([]api.Handler, 31)...)
		}, api.ErrMany},
		{"m3.h0.At", func(f *api.File) { f.Methods[mBody].Handlers[0].At = 4 }, api.ErrArg},
		{"m3.h0.Class", func(f *api.File) { f.Methods[mBody].Handlers[0].Class = nameX }, api.ErrPool},
		{"m3.h1.To", func(f *api.File) { f.Methods[mBody].Handlers[1].To = 1 }, api.ErrArg},
		{"m3.h1.Class", func(f *api.File) { f.Methods[mBody].Handlers[1].Class = fieldX }, api.ErrPool},
		{"m3.Desc", func(f *api.File) { f.Methods[mBody].Desc = descV }, api.ErrTwice},
		{"size", func(f *api.File) {
			f.Pool = append(f.Pool, slices.Repeat([]api.Const{{Tag: 1, Text: strings.Repeat("a", 2000)}}, 40)...)
		}, api.ErrLong},
	}
}

func faults() []fault {
	return slices.Concat(poolFaults(), classFaults(), fieldFaults(), methodFaults())
}

func TestF3_1EachFault(t *testing.T) {
	checkFile(t, "no fault", sample(), api.OK)
	for _, c := range faults() {
		checkFile(t, c.sets, c.of(sample()), c.want)
	}
}

// TestF3_1FirstOfTwo breaks the sample twice: the fault that the document names first is told.
func TestF3_1FirstOfTwo(t *testing.T) {
	l := faults()
	for i, c := range l {
		for _, d := range l[i+1:] {
			// A text that is gone with its tag, or a body longer than the place in it that is at fault, is no second fault.
			if c.sets == d.sets || c.sets == "c1.Tag" && d.sets == "c1.Text" || c.sets == "m3.Code" && d.sets == "m3.h0.At" {
				continue
			}
			f := d.of(c.of(sample()))
			if e := Right(f); e != c.want {
				t.Errorf("%s and %s: Right is %d, want %d", c.sets, d.sets, e, c.want)
			}
		}
	}
}

// withConst is the sample with one more constant, the one of the number 21.
func withConst(c api.Const) api.File {
	f := sample()
	f.Pool = append(f.Pool, c)
	return f
}

func TestF3_1Tags(t *testing.T) {
	for _, tag := range []int{math.MinInt, -1, 0, 8, 9, 255, 256, 257, 1 << 32, 1<<32 + 4, math.MaxInt} {
		for _, c := range []api.Const{{Tag: tag}, {Tag: tag, Text: "a"}, {Tag: tag, N: 1}, {Tag: tag, A: nameX}, {Tag: tag, A: classA, B: nameX, C: descI}} {
			checkFile(t, fmt.Sprintf("%+v", c), withConst(c), api.ErrPool)
		}
	}
}

func TestF3_1FieldsOfConstants(t *testing.T) {
	for _, c := range []api.Const{
		{Tag: 1, Text: "a"}, {Tag: 1}, {Tag: 2, N: 1}, {Tag: 2}, {Tag: 3, A: nameX}, {Tag: 4, A: nameX}, {Tag: 7, A: descI},
		{Tag: 5, A: classA, B: nameX, C: descI}, {Tag: 6, A: classA, B: nameX, C: descV},
	} {
		checkFile(t, fmt.Sprintf("%+v", c), withConst(c), api.OK)
		for _, d := range withMore(c) {
			checkFile(t, fmt.Sprintf("%+v", d), withConst(d), api.ErrPool)
		}
	}
}

// withMore are the constants that have one thing more than c.
func withMore(c api.Const) []api.Const {
	var l []api.Const
	if c.Tag != 1 {
		l = append(l, c)
		l[len(l)-1].Text = "a"
	}
	for _, n := range []int{1, -1, nameX, classA, math.MinInt} {
		if c.Tag != 2 {
			l = append(l, c)
			l[len(l)-1].N = n
		}
		if c.Tag <= 2 {
			l = append(l, c)
			l[len(l)-1].A = n
		}
		if c.Tag != 5 && c.Tag != 6 {
			l = append(l, c, c)
			l[len(l)-2].B = n
			l[len(l)-1].C = n
		}
	}
	return l
}

// tagged are the numbers of the sample's constants with one of these tags.
func tagged(tags ...int) []int {
	var l []int
	for i, c := range sample().Pool {
		if slices.Contains(tags, c.Tag) {
			l = append(l, i+1)
		}
	}
	return l
}

// noConsts are numbers of no constant, where there are n of them.
func noConsts(n int) []int {
	return []int{0, n + 1, n + 2, -1, -n, 1 << 16, 1<<16 + 1, 1<<32 + 1, math.MinInt, math.MaxInt}
}

func TestF3_1LinksOfConstants(t *testing.T) {
	noNames := append(noConsts(21), tagged(2, 3, 4, 5, 6, 7)...)
	noClasses := append(noConsts(21), tagged(1, 2, 3, 5, 6, 7)...)
	for _, i := range append(noNames, 21) {
		for _, c := range []api.Const{
			{Tag: 3, A: i}, {Tag: 4, A: i}, {Tag: 7, A: i},
			{Tag: 5, A: classA, B: i, C: descI}, {Tag: 5, A: classA, B: nameX, C: i},
			{Tag: 6, A: classA, B: i, C: descV}, {Tag: 6, A: classA, B: nameX, C: i},
		} {
			checkFile(t, fmt.Sprintf("%+v", c), withConst(c), api.ErrPool)
		}
	}
	for _, i := range append(noClasses, 21) {
		checkFile(t, "the class of a field", withConst(api.Const{Tag: 5, A: i, B: nameX, C: descI}), api.ErrPool)
		checkFile(t, "the class of a method", withConst(api.Const{Tag: 6, A: i, B: nameX, C: descV}), api.ErrPool)
	}
}

// TestF3_1LinksAhead has constants that lead to later ones: these are held to their tag first, to their text in their turn.
func TestF3_1LinksAhead(t *testing.T) {
	for _, c := range []struct {
		pool []api.Const
		want api.Errno
	}{
		{[]api.Const{{Tag: 4, A: 2}, {Tag: 1, Text: "B"}}, api.OK},
		{[]api.Const{{Tag: 5, A: 2, B: 3, C: 4}, {Tag: 4, A: 3}, {Tag: 1, Text: "B"}, {Tag: 1, Text: "[LB;"}}, api.OK},
		{[]api.Const{{Tag: 6, A: 2, B: 3, C: 4}, {Tag: 4, A: 3}, {Tag: 1, Text: "B"}, {Tag: 1, Text: "([LB;)LB;"}}, api.OK},
		{[]api.Const{{Tag: 3, A: 2}, {Tag: 1, Text: "\xff"}}, api.ErrForm},
		{[]api.Const{{Tag: 3, A: 2}, {Tag: 1, Text: strings.Repeat("a", 2001)}}, api.ErrLong},
		{[]api.Const{{Tag: 4, A: 2}, {Tag: 1, Text: "\xff"}}, api.ErrName},
		{[]api.Const{{Tag: 4, A: 2}, {Tag: 1, Text: strings.Repeat("a", 2001)}}, api.ErrName},
		{[]api.Const{{Tag: 7, A: 2}, {Tag: 1, Text: "\xff"}}, api.ErrDesc},
		{[]api.Const{{Tag: 5, A: 3, B: 2, C: 2}, {Tag: 1, Text: "I"}, {Tag: 4, A: 9}}, api.ErrPool},
		{[]api.Const{{Tag: 5, A: 3, B: 2, C: 2}, {Tag: 1, Text: "x"}, {Tag: 4, A: 9}}, api.ErrDesc},
		{[]api.Const{{Tag: 4, A: 2}, {Tag: 9}}, api.ErrPool},
		{[]api.Const{{Tag: 1, Text: "\xff"}, {Tag: 9}}, api.ErrForm},
	} {
		f := sample()
		for _, k := range c.pool {
			// The links of these constants are counted from 1 on.
			for _, p := range []*int{&k.A, &k.B, &k.C} {
				if *p != 0 {
					*p += 20
				}
			}
			f.Pool = append(f.Pool, k)
		}
		checkFile(t, fmt.Sprintf("%.200q", fmt.Sprint(c.pool)), f, c.want)
	}
}

func TestF3_1Texts(t *testing.T) {
	for _, c := range []struct {
		text string
		want api.Errno
	}{
		{"", api.OK}, {"\x00", api.OK}, {"a b.;[()", api.OK}, {"\ufffd", api.OK}, {strings.Repeat("a", 2000), api.OK}, {strings.Repeat("\U0001f600", 2000), api.OK},
		{strings.Repeat("a", 2001), api.ErrLong}, {strings.Repeat("\U0001f600", 2001), api.ErrLong}, {strings.Repeat("a", 65536), api.ErrLong}, {strings.Repeat("a", 1<<20), api.ErrLong},
		{"\xff", api.ErrForm}, {"\xc0\x80", api.ErrForm}, {"\xed\xa0\x80", api.ErrForm}, {"a\xe2\x82", api.ErrForm},
		{strings.Repeat("a", 2001) + "\xff", api.ErrForm}, {strings.Repeat("a", 65536) + "\xff", api.ErrForm},
	} {
		checkFile(t, fmt.Sprintf("%.40q", c.text), withConst(api.Const{Tag: 1, Text: c.text}), c.want)
	}
}

// withText is the sample with a name constant, the one of the number 21, and with one that leads to it.
func withText(text string, c api.Const) api.File {
	f := withConst(api.Const{Tag: 1, Text: text})
	f.Pool = append(f.Pool, c)
	return f
}

func TestF3_1NamesAndDescriptorsOfConstants(t *testing.T) {
	names := map[string]api.Errno{
		"a": api.OK, "<init>": api.OK, "é/\U0001f600": api.OK, strings.Repeat("é", 64): api.OK,
		"": api.ErrName, "a b": api.ErrName, "a;": api.ErrName, "[I": api.ErrName, "a\x00": api.ErrName, strings.Repeat("a", 65): api.ErrName,
	}
	for s, want := range names {
		checkFile(t, s, withText(s, api.Const{Tag: 4, A: 21}), want)
		checkFile(t, s, withText(s, api.Const{Tag: 5, A: classA, B: 21, C: descI}), want)
		checkFile(t, s, withText(s, api.Const{Tag: 6, A: classA, B: 21, C: descV}), want)
		checkFile(t, s, withText(s, api.Const{Tag: 3, A: 21}), api.OK)
	}
	types := map[string]api.Errno{
		"I": api.OK, "LA;": api.OK, "[[[[LA;": api.OK,
		"": api.ErrDesc, "V": api.ErrDesc, "[[[[[I": api.ErrDesc, "()V": api.ErrDesc, "A": api.ErrDesc, "II": api.ErrDesc,
	}
	for s, want := range types {
		checkFile(t, s, withText(s, api.Const{Tag: 7, A: 21}), want)
		checkFile(t, s, withText(s, api.Const{Tag: 5, A: classA, B: nameX, C: 21}), want)
	}
	sigs := map[string]api.Errno{
		"()V": api.OK, "(I[LA;)LA;": api.OK, "(" + strings.Repeat("I", 16) + ")I": api.OK,
		"": api.ErrDesc, "I": api.ErrDesc, "(V)I": api.ErrDesc, "()": api.ErrDesc, "(" + strings.Repeat("I", 17) + ")I": api.ErrMany, "(" + strings.Repeat("I", 17) + ")": api.ErrDesc,
	}
	for s, want := range sigs {
		checkFile(t, s, withText(s, api.Const{Tag: 6, A: classA, B: nameX, C: 21}), want)
	}
}

func TestF3_1Class(t *testing.T) {
	for _, n := range []int{math.MinInt, -1, 1, 4, 5, 6, 7, 255, 256, 258, 1<<32 + 2, math.MaxInt} {
		f := sample()
		f.Flags = n
		checkFile(t, fmt.Sprint("flags ", n), f, api.ErrFlags)
	}
	f := sample()
	f.Flags = 0
	checkFile(t, "flags 0", f, api.OK)
	for _, i := range append(noConsts(20), tagged(1, 2, 3, 5, 6, 7)...) {
		f := sample()
		f.This = i
		checkFile(t, fmt.Sprint("this ", i), f, api.ErrPool)
		f = sample()
		f.Ifaces[1] = i
		checkFile(t, fmt.Sprint("interface ", i), f, api.ErrPool)
		want := api.ErrPool
		if i == 0 {
			want = api.OK
		}
		f = sample()
		f.Super = i
		checkFile(t, fmt.Sprint("super ", i), f, want)
	}
	for _, n := range []int{0, 1, 16, 17, 255, 256, 1 << 17} {
		f := sample()
		f.Ifaces = slices.Repeat([]int{classA}, n)
		want := api.OK
		if n > 16 {
			want = api.ErrMany
		}
		checkFile(t, fmt.Sprint(n, " interfaces"), f, want)
	}
}

// An interface has static members and abstract methods only.
func TestF3_1Interface(t *testing.T) {
	f := sample()
	f.Flags = 3
	checkFile(t, "a field of an interface", f, api.ErrFlags)
	f.Fields = f.Fields[1:]
	checkFile(t, "a constructor of an interface", f, api.ErrFlags)
	f.Methods = f.Methods[1:]
	checkFile(t, "an interface", f, api.OK)
	f.Methods[mBody-1].Flags = 0
	checkFile(t, "a method of an interface", f, api.ErrFlags)
	f.Flags = 2
	checkFile(t, "a method of an abstract class", f, api.OK)
}

func TestF3_1FlagsOfMembers(t *testing.T) {
	for _, n := range []int{math.MinInt, -1, 2, 3, 4, 255, 256, 257, 1 << 32, math.MaxInt} {
		f := sample()
		f.Fields[1].Flags = n
		checkFile(t, fmt.Sprint("a field's flags ", n), f, api.ErrFlags)
		if n == 2 {
			continue
		}
		f = sample()
		f.Methods[mBody].Flags = n
		checkFile(t, fmt.Sprint("a method's flags ", n), f, api.ErrFlags)
	}
	for n := range 2 {
		f := sample()
		f.Fields[1].Flags = n
		f.Methods[mBody].Flags = n
		checkFile(t, fmt.Sprint("flags ", n), f, api.OK)
	}
}

func TestF3_1LinksOfMembers(t *testing.T) {
	for _, i := range append(noConsts(20), tagged(2, 3, 4, 5, 6, 7)...) {
		for _, p := range []func(f *api.File) *int{
			func(f *api.File) *int { return &f.Fields[1].Name },
			func(f *api.File) *int { return &f.Fields[1].Desc },
			func(f *api.File) *int { return &f.Methods[mAbstract].Name },
			func(f *api.File) *int { return &f.Methods[mAbstract].Desc },
			func(f *api.File) *int { return &f.Methods[mBody].Name },
			func(f *api.File) *int { return &f.Methods[mBody].Desc },
		} {
			f := sample()
			*p(&f) = i
			checkFile(t, fmt.Sprint("a member's link ", i), f, api.ErrPool)
		}
	}
}

func TestF3_1Special(t *testing.T) {
	for _, c := range []struct {
		flags      int
		name, desc string
		want       api.Errno
	}{
		{0, "<init>", "()V", api.OK}, {0, "<init>", "(ILA;)V", api.OK}, {1, "<clinit>", "()V", api.OK},
		{1, "<init>", "()V", api.ErrFlags}, {2, "<init>", "()V", api.ErrFlags}, {0, "<init>", "()I", api.ErrFlags}, {0, "<init>", "()LV;", api.ErrFlags}, {0, "<init>", "(I)LA;", api.ErrFlags},
		{0, "<clinit>", "()V", api.ErrFlags}, {2, "<clinit>", "()V", api.ErrFlags}, {1, "<clinit>", "()I", api.ErrFlags}, {1, "<clinit>", "(I)V", api.ErrFlags},
		{0, "<init>", "I", api.ErrDesc}, {1, "<init>", "()", api.ErrDesc}, {0, "<clinit>", "V", api.ErrDesc},
		{1, "init", "()I", api.OK}, {2, "<Init>", "(I)V", api.OK}, {0, "<init", "()I", api.OK}, {0, "clinit", "(I)I", api.OK}, {0, "<clinit>>", "(I)I", api.OK},
	} {
		f := withText(c.name, api.Const{Tag: 1, Text: c.desc})
		m := api.Member{Flags: c.flags, Name: 21, Desc: 22}
		if c.flags != 2 {
			m.Code = "\x00"
		}
		f.Methods = []api.Member{m}
		checkFile(t, fmt.Sprint(c), f, c.want)
	}
	f := sample()
	f.Fields[0].Name, f.Fields[1].Name = nameInit, nameClinit
	checkFile(t, "fields", f, api.OK)
}

func TestF3_1Body(t *testing.T) {
	for _, c := range []struct {
		m    api.Member
		want api.Errno
	}{
		{api.Member{Code: "a"}, api.OK},
		{api.Member{Code: "a", MaxStack: 64, MaxLocals: 64}, api.OK},
		{api.Member{Code: "a", MaxStack: 65}, api.ErrOver}, {api.Member{Code: "a", MaxStack: -1}, api.ErrOver}, {api.Member{Code: "a", MaxStack: 256}, api.ErrOver},
		{api.Member{Code: "a", MaxLocals: 65}, api.ErrOver}, {api.Member{Code: "a", MaxLocals: -1}, api.ErrOver}, {api.Member{Code: "a", MaxLocals: math.MinInt}, api.ErrOver},
		{api.Member{}, api.ErrShort}, {api.Member{MaxStack: math.MaxInt}, api.ErrOver}, {api.Member{Handlers: make([]api.Handler, 33)}, api.ErrShort},
		{api.Member{Code: strings.Repeat("\xff", 4096)}, api.OK}, {api.Member{Code: strings.Repeat("a", 4097)}, api.ErrLong}, {api.Member{Code: strings.Repeat("a", 1<<16)}, api.ErrLong},
		{api.Member{Code: strings.Repeat("a", 4097), Handlers: make([]api.Handler, 33)}, api.ErrLong},
		{api.Member{Code: "a", Handlers: slices.Repeat([]api.Handler{{To: 1}}, 32)}, api.OK},
		{api.Member{Code: "a", Handlers: slices.Repeat([]api.Handler{{To: 1}}, 33)}, api.ErrMany},
		{api.Member{Code: "a", Handlers: make([]api.Handler, 256)}, api.ErrMany},
	} {
		f := sample()
		c.m.Name, c.m.Desc = nameX, descV
		f.Methods = []api.Member{c.m}
		checkFile(t, fmt.Sprintf("%.200q", fmt.Sprint(c.m)), f, c.want)
	}
}

func TestF3_1Handlers(t *testing.T) {
	places := []int{math.MinInt, -1, 0, 1, 2, 3, 4, 5, 1 << 16, math.MaxInt}
	for _, from := range places {
		for _, to := range places {
			for _, at := range places {
				f := sample()
				h := api.Handler{From: from, To: to, At: at}
				f.Methods[mBody].Handlers[1] = h
				want := api.ErrArg
				if 0 <= from && from < to && to <= 4 && 0 <= at && at < 4 {
					want = api.OK
				}
				checkFile(t, fmt.Sprint(h), f, want)
			}
		}
	}
	for _, i := range append(noConsts(20)[1:], tagged(1, 2, 3, 5, 6, 7)...) {
		f := sample()
		f.Methods[mBody].Handlers[1].Class = i
		checkFile(t, fmt.Sprint("a handler's class ", i), f, api.ErrPool)
	}
}

// members are n members, each of its own name, and a file with these names.
func members(n int, like api.Member) (api.File, []api.Member) {
	f := sample()
	f.Fields, f.Methods = nil, nil
	l := slices.Repeat([]api.Member{like}, n)
	for i := range l {
		f.Pool = append(f.Pool, api.Const{Tag: 1, Text: fmt.Sprint("m", i)})
		l[i].Name = len(f.Pool)
	}
	return f, l
}

func TestF3_1ManyMembers(t *testing.T) {
	for n, want := range map[int]api.Errno{0: api.OK, 1: api.OK, 199: api.OK, 200: api.OK, 201: api.ErrMany, 256: api.ErrMany, 257: api.ErrMany} {
		f, l := members(n, api.Member{Desc: descI})
		f.Fields = l
		checkFile(t, fmt.Sprint(n, " fields"), f, want)
		f, l = members(n, api.Member{Desc: descV, Code: "a"})
		f.Methods = l
		checkFile(t, fmt.Sprint(n, " methods"), f, want)
	}
	f, l := members(200, api.Member{Desc: descI})
	f.Fields = l
	for _, i := range []int{0, 100, 198} {
		f.Fields[199].Name = f.Fields[i].Name
		checkFile(t, "twice", f, api.ErrTwice)
	}
}

func TestF3_1Twice(t *testing.T) {
	f := sample()
	f.Pool = append(f.Pool, api.Const{Tag: 1, Text: "()V"})
	for _, c := range []struct {
		a, b api.Member
		want api.Errno
	}{
		{api.Member{Flags: 2, Name: nameX, Desc: descV}, api.Member{Flags: 2, Name: otherX, Desc: 21}, api.ErrTwice},
		{api.Member{Flags: 2, Name: nameX, Desc: descV}, api.Member{Flags: 1, Name: nameX, Desc: descV, Code: "a"}, api.ErrTwice},
		{api.Member{Flags: 1, Name: nameX, Desc: descV, Code: "a"}, api.Member{Flags: 2, Name: nameX, Desc: 21}, api.ErrTwice},
		{api.Member{Flags: 2, Name: nameX, Desc: descV}, api.Member{Flags: 2, Name: nameX, Desc: descIV}, api.OK},
		{api.Member{Flags: 2, Name: nameX, Desc: descV}, api.Member{Flags: 2, Name: nameA, Desc: descV}, api.OK},
	} {
		f.Methods = []api.Member{c.a, {Flags: 2, Name: nameObject, Desc: descV}, c.b}
		checkFile(t, fmt.Sprint(c), f, c.want)
	}
	f = sample()
	f.Fields[1] = api.Member{Flags: 1, Name: otherX, Desc: typeI}
	checkFile(t, "a class as descriptor", f, api.ErrPool)
	f.Fields[1].Desc = descI
	checkFile(t, "a field twice", f, api.ErrTwice)
	f.Fields[1].Name = nameInit
	checkFile(t, "a field of a method's name", f, api.OK)
}

func TestF3_1ManyConstants(t *testing.T) {
	for _, n := range []int{1999, 2000, 2001, 65536, 65536 + 20} {
		f := sample()
		f.Pool = append(f.Pool, slices.Repeat([]api.Const{{Tag: 2, N: 7}}, n-20)...)
		want := api.OK
		if n > 2000 {
			want = api.ErrMany
		}
		checkFile(t, fmt.Sprint(n, " constants"), f, want)
		f.Pool[0].Tag = 9
		if want == api.OK {
			want = api.ErrPool
		}
		checkFile(t, fmt.Sprint(n, " constants with a fault"), f, want)
	}
	checkFile(t, "no constants", api.File{}, api.ErrPool)
	checkFile(t, "no class", api.File{Pool: []api.Const{{Tag: 2}}}, api.ErrPool)
	checkFile(t, "flags and no class", api.File{Flags: 1}, api.ErrFlags)
}

// ofSize is a right file of so many bytes: constants of the rune 0, which has two bytes, fill it up.
func ofSize(t *testing.T, size int) api.File {
	t.Helper()
	f := sample()
	for size-len(raw(f)) > 6000 {
		f.Pool = append(f.Pool, api.Const{Tag: 1, Text: strings.Repeat("\x00", 2000)})
	}
	for size-len(raw(f)) > 1500 {
		f.Pool = append(f.Pool, api.Const{Tag: 1, Text: strings.Repeat("a", 1000)})
	}
	f.Pool = append(f.Pool, api.Const{Tag: 1})
	f.Pool[len(f.Pool)-1].Text = strings.Repeat("a", size-len(raw(f)))
	if n := len(raw(f)); n != size {
		t.Fatalf("%d bytes, not %d", n, size)
	}
	return f
}

func TestF3_1Size(t *testing.T) {
	checkFile(t, "65535 bytes", ofSize(t, 65535), api.OK)
	checkFile(t, "65536 bytes", ofSize(t, 65536), api.OK)
	checkFile(t, "65537 bytes", ofSize(t, 65537), api.ErrLong)
	f, l := members(200, api.Member{Desc: descV, Code: strings.Repeat("a", 4096)})
	f.Methods = l
	checkFile(t, "all code", f, api.ErrLong)
	f.Methods[199].MaxStack = 65
	checkFile(t, "a fault ahead of the size", f, api.ErrOver)
}

func TestF3_1Examples(t *testing.T) {
	small := func() api.File {
		return api.File{Pool: []api.Const{{Tag: 1, Text: "A"}, {Tag: 4, A: 1}, {Tag: 1, Text: "Object"}, {Tag: 4, A: 3}}, This: 2, Super: 4}
	}
	checkFile(t, "the example", small(), api.OK)
	if b, e := Encode(small()); e != api.OK || !strings.HasPrefix(b, "CRUX\x00\x04\x01\x00\x01A\x04\x00\x01") {
		t.Errorf("%x, %d", b, e)
	}
	f := small()
	f.This = 1
	checkFile(t, "this 1", f, api.ErrPool)
	f = small()
	f.Flags = 1
	checkFile(t, "flags 1", f, api.ErrFlags)
	f = small()
	f.Pool = append(f.Pool, api.Const{Tag: 4, A: 9})
	checkFile(t, "a class without a name", f, api.ErrPool)
	f = small()
	f.Fields = []api.Member{{Name: 1, Desc: 1}}
	checkFile(t, "a field A of the type A", f, api.ErrDesc)
}

// ints are all numbers of a file.
func ints(f *api.File) []*int {
	l := []*int{&f.Flags, &f.This, &f.Super}
	for i := range f.Pool {
		c := &f.Pool[i]
		l = append(l, &c.Tag, &c.N, &c.A, &c.B, &c.C)
	}
	for i := range f.Ifaces {
		l = append(l, &f.Ifaces[i])
	}
	for _, ms := range [][]api.Member{f.Fields, f.Methods} {
		for i := range ms {
			m := &ms[i]
			l = append(l, &m.Flags, &m.Name, &m.Desc, &m.MaxStack, &m.MaxLocals)
			for j := range m.Handlers {
				h := &m.Handlers[j]
				l = append(l, &h.From, &h.To, &h.At, &h.Class)
			}
		}
	}
	return l
}

// TestF3_4AnyNumber turns each number of the sample into others: what is right comes back, the rest is told and does not panic.
func TestF3_4AnyNumber(t *testing.T) {
	f := sample()
	for i := range ints(&f) {
		for _, n := range []int{math.MinInt, -1 << 32, -256, -1, 0, 1, 2, 3, 4, 5, 6, 7, 8, 16, 20, 21, 64, 65, 255, 256, 1 << 16, 1 << 32, math.MaxInt} {
			f := sample()
			*ints(&f)[i] = n
			checkFile(t, fmt.Sprintf("number %d turned into %d", i, n), f, Right(f))
			for _, j := range append(noConsts(20), 1, 2, 9, 10) {
				Name(f, j)
				ClassName(f, j)
			}
			Find(f, "x", "()V")
		}
	}
}

func TestF3_2SampleBytes(t *testing.T) {
	want := sampleBytes(t)
	if got := raw(sample()); got != want {
		t.Fatalf("the bytes of the sample are\n%x, not\n%x", got, want)
	}
	if b, e := Encode(sample()); b != want || e != api.OK {
		t.Errorf("Encode is %x, %d", b, e)
	}
	if f, e := Parse(want); tell(f) != tell(sample()) || e != api.OK {
		t.Errorf("Parse is %s, %d", tell(f), e)
	}
}

func TestF3_2Numbers(t *testing.T) {
	for n, bytes := range map[int]string{
		0: "0000000000000000", 1: "0000000000000001", -1: "ffffffffffffffff", 256: "0000000000000100", 1 << 32: "0000000100000000",
		0x0102030405060708: "0102030405060708", -0x0102030405060708: "fefdfcfbfaf9f8f8",
		math.MaxInt64: "7fffffffffffffff", math.MinInt64: "8000000000000000", math.MaxInt32: "000000007fffffff", math.MinInt32: "ffffffff80000000",
	} {
		f := withConst(api.Const{Tag: 2, N: n})
		checkFile(t, fmt.Sprint(n), f, api.OK)
		if b, _ := Encode(f); !strings.Contains(fmt.Sprintf("%x", b), "02"+bytes) {
			t.Errorf("%d: no %s in %x", n, bytes, b)
		}
	}
}

// TestF3_2ParseOfFaults has the bytes of broken files, where the fault is to be seen in them.
func TestF3_2ParseOfFaults(t *testing.T) {
	seen := 0
	for _, c := range faults() {
		b := raw(c.of(sample()))
		if b == raw(sample()) || strings.HasSuffix(c.sets, ".Tag") || len(b) > 65536 {
			continue
		}
		seen++
		if c.sets == "pool" {
			// The constants of this fault have the tag 0.
			b = raw(api.File{Pool: make([]api.Const, 2001)})
			c.want = api.ErrForm
		}
		checkParse(t, c.sets, b, c.want)
	}
	if seen < 40 {
		t.Errorf("only %d faults are to be seen", seen)
	}
	f := sample()
	f.Pool = append(f.Pool, slices.Repeat([]api.Const{{Tag: 2, N: 7}}, 2001-20)...)
	checkParse(t, "2001 constants", raw(f), api.ErrMany)
	f.Pool = slices.Repeat([]api.Const{{Tag: 4}}, 20000)
	checkParse(t, "20000 constants", raw(f), api.ErrMany)
}

func TestF3_2ParseOfForms(t *testing.T) {
	b := sampleBytes(t)
	for _, c := range []struct {
		what, b string
		want    api.Errno
	}{
		{"nothing", "", api.ErrShort}, {"two bytes", "CR", api.ErrShort}, {"a beginning", "CRUX", api.ErrShort}, {"half a number", "CRUX\x00", api.ErrShort},
		{"no beginning", "CRUZ" + b[4:], api.ErrForm}, {"no beginning", "XRUX" + b[4:], api.ErrForm}, {"small letters", "crux" + b[4:], api.ErrForm}, {"behind a byte", "\x00" + b, api.ErrForm}, {"four other bytes", "abcd", api.ErrForm},
		{"the tag 0", "CRUX\x00\x01\x00", api.ErrForm}, {"the tag 8", "CRUX\x00\x01\x08" + b, api.ErrForm}, {"the tag 255", b[:6] + "\xff" + b[7:], api.ErrForm},
		{"a tag of the second constant", b[:10] + "\x08" + b[11:], api.ErrForm},
		{"no tag", "CRUX\xff\xff", api.ErrShort}, {"a name too long", "CRUX\x00\x01\x01\xff\xffabc", api.ErrShort}, {"a broken name too long", "CRUX\x00\x01\x01\x00\x04\xff\xff\xff", api.ErrShort},
		{"a byte 0", "CRUX\x00\x01\x01\x00\x01\x00", api.ErrForm}, {"half a pair", "CRUX\x00\x01\x01\x00\x03\xed\xa0\x80", api.ErrForm}, {"UTF-8", "CRUX\x00\x01\x01\x00\x04\xf0\x9f\x98\x80", api.ErrForm},
		{"a broken name ahead of a wrong tag", "CRUX\x00\x02\x01\x00\x01\xff\x09", api.ErrForm},
		{"a cut constant", "CRUX\x00\x02\x05\x00\x01\x00\x02\x00", api.ErrShort}, {"a cut number", "CRUX\x00\x02\x02\x00\x01\x00\x02\x00\x00\x00", api.ErrShort},
		{"a byte behind", b + "x", api.ErrRest}, {"a file behind", b + b, api.ErrRest}, {"a byte 0 behind", b + "\x00", api.ErrRest},
		{"nothing but zeros", "CRUX" + strings.Repeat("\x00", 10), api.ErrPool},
		{"a byte behind zeros", "CRUX" + strings.Repeat("\x00", 11), api.ErrRest},
	} {
		checkParse(t, c.what, c.b, c.want)
	}
}

func TestF3_2ParseOrder(t *testing.T) {
	f := sample()
	f.Flags = 1
	b := raw(f)
	checkParse(t, "flags", b, api.ErrFlags)
	checkParse(t, "flags and a byte behind", b+"x", api.ErrRest)
	checkParse(t, "flags and a byte too few", b[:len(b)-1], api.ErrShort)
	long := raw(ofSize(t, 65536))
	checkParse(t, "65536 bytes", long, api.OK)
	checkParse(t, "65537 bytes", long+"x", api.ErrLong)
	checkParse(t, "65537 bytes of a file", raw(ofSize(t, 65537)), api.ErrLong)
	checkParse(t, "65536 bytes of none", "x"+long[1:], api.ErrForm)
	checkParse(t, "65537 bytes of none", "x"+long, api.ErrLong)
	checkParse(t, "65536 bytes, one behind", raw(ofSize(t, 65535))+"x", api.ErrRest)
}

// A method with flags that may not be has a body, a field has none.
func TestF3_2ParseOfWrongFlags(t *testing.T) {
	for _, n := range []int{3, 4, 18, 255} {
		f := sample()
		f.Methods[mBody].Flags = n
		checkParse(t, "a method's flags", raw(f), api.ErrFlags)
		f = sample()
		f.Methods[mAbstract].Flags = n
		checkParse(t, "an abstract method's flags", raw(f), api.ErrFlags)
		f = sample()
		f.Fields[1].Flags = n
		checkParse(t, "a field's flags", raw(f), api.ErrFlags)
	}
	f := sample()
	b := raw(f)
	f.Methods[mAbstract].MaxStack = 7
	if raw(f) != b {
		t.Error("an abstract method has a body")
	}
	f.Methods[mAbstract].Flags = 1
	checkParse(t, "a method without code", raw(f), api.ErrShort)
}

// TestP3NothingIsShared turns what Parse answered, and reads again.
func TestP3NothingIsShared(t *testing.T) {
	b := sampleBytes(t)
	f, _ := Parse(b)
	want := tell(sample())
	g, _ := Parse(b)
	for _, p := range ints(&f) {
		*p = -7
	}
	_ = append(f.Fields, api.Member{Flags: 9})
	_ = append(f.Methods, api.Member{Flags: 9})
	_ = append(f.Ifaces, 9)
	if tell(g) != want {
		t.Errorf("a second file changed: %s", tell(g))
	}
	if h, _ := Parse(b); tell(h) != want {
		t.Errorf("a third file changed: %s", tell(h))
	}
}

// TestP3BehindTheEnd puts faults behind the end of each list.
func TestP3BehindTheEnd(t *testing.T) {
	f := sample()
	f.Pool = append(f.Pool, api.Const{Tag: 9})[:20]
	f.Ifaces = append(f.Ifaces, 99)[:2]
	f.Fields = append(f.Fields, api.Member{Flags: 9})[:2]
	f.Methods = append(f.Methods, api.Member{Flags: 9})[:4]
	f.Methods[mBody].Handlers = append(f.Methods[mBody].Handlers, api.Handler{At: 9})[:2]
	checkFile(t, "behind the end", f, api.OK)
	if f.Pool[:21][20].Tag != 9 || f.Ifaces[:3][2] != 99 || f.Fields[:3][2].Flags != 9 || f.Methods[:5][4].Flags != 9 || f.Methods[mBody].Handlers[:3][2].At != 9 {
		t.Error("written behind the end")
	}
	if _, ok := Name(f, 21); ok {
		t.Error("a name behind the end")
	}
}

func TestF3_3NameAndClassName(t *testing.T) {
	f, _ := Parse(sampleBytes(t))
	for i, c := range sample().Pool {
		s, ok := Name(f, i+1)
		if s != c.Text || ok != (c.Tag == 1) {
			t.Errorf("Name of %d is %q, %v", i+1, s, ok)
		}
		want := map[int]string{classA: "A", classObject: "Object"}[i+1]
		s, ok = ClassName(f, i+1)
		if s != want || ok != (c.Tag == 4) {
			t.Errorf("ClassName of %d is %q, %v", i+1, s, ok)
		}
	}
	for _, i := range noConsts(20) {
		if s, ok := Name(f, i); s != "" || ok {
			t.Errorf("Name of %d is %q, %v", i, s, ok)
		}
		if s, ok := ClassName(f, i); s != "" || ok {
			t.Errorf("ClassName of %d is %q, %v", i, s, ok)
		}
	}
}

func TestF3_3Find(t *testing.T) {
	f, _ := Parse(sampleBytes(t))
	for _, c := range []struct {
		name, desc string
		want       int
	}{
		{"<init>", "()V", mInit}, {"<clinit>", "()V", mClinit}, {"x", "()V", mAbstract}, {"x", "(I)V", mBody},
		{"x", "()I", -1}, {"<init>", "(I)V", -1}, {"y", "()V", -1}, {"X", "()V", -1}, {"()V", "x", -1}, {"A", "I", -1}, {"x", "I", -1}, {"x", "", -1}, {"", "()V", -1}, {"", "", -1}, {"\xff", "\xff", -1},
	} {
		if got := Find(f, c.name, c.desc); got != c.want {
			t.Errorf("Find of %q, %q is %d, want %d", c.name, c.desc, got, c.want)
		}
	}
	f.Methods = nil
	if got := Find(f, "x", "()V"); got != -1 {
		t.Errorf("Find in no methods is %d", got)
	}
}

// TestP1AnyFile asks for parts of files that are not right: no call panics.
func TestP1AnyFile(t *testing.T) {
	for _, f := range []api.File{
		{}, {Pool: []api.Const{{Tag: 4, A: 1}}}, {Pool: []api.Const{{Tag: 4, A: 9}}}, {Pool: []api.Const{{Tag: 4, A: math.MinInt}}},
		{Methods: make([]api.Member, 3)}, {Methods: []api.Member{{Name: math.MaxInt, Desc: -1}}},
	} {
		for _, i := range noConsts(1) {
			Name(f, i)
			ClassName(f, i)
		}
		ClassName(f, 1)
		Find(f, "", "")
		checkFile(t, tell(f), f, api.ErrPool)
	}
}

// TestF3_4CutOff cuts files at each place.
func TestF3_4CutOff(t *testing.T) {
	b := sampleBytes(t)
	for i := range b {
		checkParse(t, fmt.Sprint("cut at ", i), b[:i], api.ErrShort)
	}
}

// checkBytes holds what follows for any bytes.
func checkBytes(t *testing.T, b string) {
	t.Helper()
	f, e := Parse(b)
	if e != api.OK {
		if tell(f) != tell(api.File{}) {
			t.Errorf("Parse(%x): %s beside %d", b, tell(f), e)
		}
		return
	}
	if back, e := Encode(f); back != b || e != api.OK {
		t.Errorf("Encode of Parse(%x) is %x, %d", b, back, e)
	}
}

// TestF3_4EachByte turns each byte of the sample into each other one.
func TestF3_4EachByte(t *testing.T) {
	b := []byte(sampleBytes(t))
	for i := range b {
		for range 256 {
			b[i]++
			checkBytes(t, string(b))
		}
	}
}

// FuzzParse holds what follows for any bytes.
func FuzzParse(f *testing.F) {
	f.Add(sampleBytes(f))
	for _, c := range faults() {
		f.Add(raw(c.of(sample())))
	}
	f.Fuzz(checkBytes)
}
