package desc

import (
	"fmt"
	"math"
	"regexp"
	"slices"
	"strings"
	"testing"

	"crucible/api"
)

// row is a valid type with its descriptor.
type row struct {
	s string
	t api.Type
}

// rows are valid types with their descriptors.
func rows() []row {
	long := strings.Repeat("a", 64)
	wide := strings.Repeat("\U0001f600", 64)
	return []row{
		{"I", api.Type{}},
		{"[I", api.Type{Dims: 1}},
		{"[[[[I", api.Type{Dims: 4}},
		{"LPoint;", api.Type{Name: "Point"}},
		{"[LPoint;", api.Type{Dims: 1, Name: "Point"}},
		{"[[LPoint;", api.Type{Dims: 2, Name: "Point"}},
		{"[[[[LPoint;", api.Type{Dims: 4, Name: "Point"}},
		{"LI;", api.Type{Name: "I"}},
		{"LV;", api.Type{Name: "V"}},
		{"LL;", api.Type{Name: "L"}},
		{"LLL;", api.Type{Name: "LL"}},
		{"L<init>;", api.Type{Name: "<init>"}},
		{"La/b;", api.Type{Name: "a/b"}},
		{"L]é€\U0001f600;", api.Type{Name: "]é€\U0001f600"}},
		{"L\ufffd;", api.Type{Name: "\ufffd"}},
		{"L" + long + ";", api.Type{Name: long}},
		{"[[[[L" + wide + ";", api.Type{Dims: 4, Name: wide}},
	}
}

// badNames are texts that are neither empty nor a name, and that stand as a whole between an L and a semicolon.
func badNames() []string {
	return []string{
		" ", "a b", ".", "a.b", "[", "[I", "a[", "(", ")", "a)", "\x00", "\x1f", "\x7f", "a\n", "\xff", "a\xff", "\xc0\x80", "\xed\xa0\x80", "\xe2\x82",
		strings.Repeat("a", 65), strings.Repeat("€", 65), strings.Repeat("a", 64) + "\xff", strings.Repeat("a", 1<<20),
	}
}

// badTypes are types that are not valid.
func badTypes() []api.Type {
	l := []api.Type{
		{Dims: -1}, {Dims: 5}, {Dims: math.MinInt}, {Dims: math.MaxInt}, {Dims: 1 << 32}, {Dims: -1, Name: "A"}, {Dims: 5, Name: "A"},
		{Name: ";"}, {Name: "a;"}, {Name: "A;I"}, {Dims: 1, Name: "a b"},
	}
	for _, s := range badNames() {
		l = append(l, api.Type{Name: s})
	}
	return l
}

// badFields are strings that are the descriptor of no type.
func badFields() []string {
	l := []string{
		"", "L", ";", "L;", "[L;", "LPoint", "[[LPoint", "Point;", "[V", "[", "[[[[", "[[[[[", "[[[[[I", "[[[[[LA;", "[[[[[[[[I",
		"II", "I;", "I[", "IV", "[I[", "LA;I", "LA;LB;", "LA;;", "La;b;", " I", "I ", "I\x00", "i", "J", "lA;", "(I)", "\xff", "I\xff", "LA\xff;", "\x00",
		strings.Repeat("[", 1<<20), strings.Repeat("L", 1<<20), strings.Repeat("I", 1<<20),
	}
	for _, s := range badNames() {
		l = append(l, "L"+s+";", "[[L"+s+";")
	}
	return l
}

func sameSig(a, b Sig) bool {
	return slices.Equal(a.Args, b.Args) && a.Ret == b.Ret && a.Void == b.Void
}

// tell is a value for a message, cut where it is long.
func tell(x any) string {
	return fmt.Sprintf("%.80q", fmt.Sprint(x))
}

func wantField(t *testing.T, s string, want api.Type, wantErr api.Errno) {
	t.Helper()
	if got, e := Field(s); got != want || e != wantErr {
		t.Errorf("Field(%.80q): %s, %d; want %s, %d", s, tell(got), e, tell(want), wantErr)
	}
}

func wantMethod(t *testing.T, s string, want Sig, wantErr api.Errno) {
	t.Helper()
	if got, e := Method(s); !sameSig(got, want) || e != wantErr {
		t.Errorf("Method(%.80q): %s, %d; want %s, %d", s, tell(got), e, tell(want), wantErr)
	}
}

func wantWrite(t *testing.T, x api.Type, want string, wantErr api.Errno) {
	t.Helper()
	if got, e := Write(x); got != want || e != wantErr {
		t.Errorf("Write(%s): %.80q, %d; want %.80q, %d", tell(x), got, e, want, wantErr)
	}
}

func wantSign(t *testing.T, m Sig, want string, wantErr api.Errno) {
	t.Helper()
	if got, e := Sign(m); got != want || e != wantErr {
		t.Errorf("Sign(%s): %.80q, %d; want %.80q, %d", tell(m), got, e, want, wantErr)
	}
}

func TestD2_1FieldAndWrite(t *testing.T) {
	for _, r := range rows() {
		wantField(t, r.s, r.t, api.OK)
		wantWrite(t, r.t, r.s, api.OK)
	}
}

func TestD2_1FieldOfNoDescriptor(t *testing.T) {
	for _, s := range append(badFields(), "V", "()I", "()V", "I)I", "I)V") {
		wantField(t, s, api.Type{}, api.ErrDesc)
	}
	for _, r := range rows() {
		for i := range r.s {
			wantField(t, r.s[:i], api.Type{}, api.ErrDesc)
		}
	}
}

func TestD2_1WriteOfNoType(t *testing.T) {
	for _, x := range badTypes() {
		wantWrite(t, x, "", api.ErrDesc)
	}
}

// sigs are valid signatures with their descriptors.
func sigs() map[string]Sig {
	point, array := api.Type{Name: "Point"}, api.Type{Dims: 1}
	return map[string]Sig{
		"()V":                                {Void: true},
		"()I":                                {},
		"()LPoint;":                          {Ret: point},
		"()[[[[I":                            {Ret: api.Type{Dims: 4}},
		"(I)I":                               {Args: []api.Type{{}}},
		"(ILPoint;)V":                        {Args: []api.Type{{}, point}, Void: true},
		"(ILPoint;[I)V":                      {Args: []api.Type{{}, point, array}, Void: true},
		"(LV;)LI;":                           {Args: []api.Type{{Name: "V"}}, Ret: api.Type{Name: "I"}},
		"([I[I)[I":                           {Args: []api.Type{array, array}, Ret: array},
		"(LPoint;LPoint;)I":                  {Args: []api.Type{point, point}},
		"(" + strings.Repeat("I", 16) + ")V": {Args: make([]api.Type, 16), Void: true},
		"(" + strings.Repeat("LPoint;", 16) + ")LPoint;": {Args: slices.Repeat([]api.Type{point}, 16), Ret: point},
	}
}

func TestD2_1MethodAndSign(t *testing.T) {
	for s, m := range sigs() {
		wantMethod(t, s, m, api.OK)
		wantSign(t, m, s, api.OK)
	}
	for _, a := range rows() {
		for _, b := range rows() {
			wantMethod(t, "("+a.s+")"+b.s, Sig{Args: []api.Type{a.t}, Ret: b.t}, api.OK)
			wantMethod(t, "("+a.s+b.s+")V", Sig{Args: []api.Type{a.t, b.t}, Void: true}, api.OK)
			wantSign(t, Sig{Args: []api.Type{a.t}, Ret: b.t}, "("+a.s+")"+b.s, api.OK)
		}
	}
}

func TestD2_1MethodOfNoDescriptor(t *testing.T) {
	for _, s := range []string{
		"", "(", ")", "()", "I", "V", ")I", "I)I", "(I", "(II", "(I)", "(V)I", "(V)V", "(IV)I", "(VI)I", "([V)I", "()[V", "()VV", "()VI", "()IV", "()II", "()I)", "()()", "()()I",
		"(())I", "((I)I", "(I))I", "(I))", "()V;", "()V\x00", " ()V", "( )V", "() V", "()V ", "()(", "()[", "([)I", "(LPoint)V", "(LPoint;)", "()LPoint", "()LA;LB;", "(L;)V", "()L;",
		"([[[[[I)V", "()[[[[[I", "(La)b;)V", "\xff", "(\xff)V", "()\xff", "()v", "(i)V", "(J)V", "(I,I)V", strings.Repeat("(", 1<<20), "(" + strings.Repeat("[", 1<<20), "(" + strings.Repeat("I", 1<<20),
	} {
		wantMethod(t, s, Sig{}, api.ErrDesc)
	}
	for _, s := range badFields() {
		wantMethod(t, s, Sig{}, api.ErrDesc)
		wantMethod(t, "()"+s, Sig{}, api.ErrDesc)
		wantMethod(t, "(I"+s, Sig{}, api.ErrDesc)
	}
	for s := range sigs() {
		for i := range s {
			wantMethod(t, s[:i], Sig{}, api.ErrDesc)
		}
		wantMethod(t, s+"I", Sig{}, api.ErrDesc)
		wantMethod(t, s+"V", Sig{}, api.ErrDesc)
	}
}

func TestD2_1MethodWithManyArgs(t *testing.T) {
	for _, arg := range []string{"I", "[[[[I", "LPoint;", "[LV;"} {
		for _, n := range []int{17, 18, 33, 1 << 16} {
			args := "(" + strings.Repeat(arg, n)
			for _, end := range []string{")V", ")I", ")LPoint;", ")[I"} {
				wantMethod(t, args+end, Sig{}, api.ErrMany)
			}
			for _, end := range []string{"", ")", "V)V", "L;)V", "[[[[[I)V", "L)I", ")VV", ")II", ")L;", ")[", "))V", "()V", ")V "} {
				wantMethod(t, args+end, Sig{}, api.ErrDesc)
			}
			wantMethod(t, "(V"+args[1:]+")V", Sig{}, api.ErrDesc)
			wantMethod(t, args[1:]+")V", Sig{}, api.ErrDesc)
		}
	}
	wantMethod(t, "("+strings.Repeat("I", 15)+"[I[I)V", Sig{}, api.ErrMany)
	wantMethod(t, "("+strings.Repeat("[[[[I", 16)+")V", Sig{Args: slices.Repeat([]api.Type{{Dims: 4}}, 16), Void: true}, api.OK)
}

func TestD2_1SignErrors(t *testing.T) {
	point := api.Type{Name: "Point"}
	for _, n := range []int{0, 1, 15, 16, 17, 100, 1 << 16} {
		args := slices.Repeat([]api.Type{point}, n)
		many := api.OK
		if n > 16 {
			many = api.ErrMany
		}
		for _, m := range []Sig{{Args: args}, {Args: args, Ret: point}, {Args: args, Void: true}} {
			if s, e := Sign(m); e != many || (s == "") != (many != api.OK) {
				t.Errorf("Sign with %d arguments: %.80q, %d; want %d", n, s, e, many)
			}
		}
		for _, bad := range badTypes() {
			wantSign(t, Sig{Args: args, Ret: bad}, "", api.ErrDesc)
			wantSign(t, Sig{Args: append(slices.Clone(args), bad)}, "", api.ErrDesc)
			wantSign(t, Sig{Args: append([]api.Type{bad}, args...), Void: true}, "", api.ErrDesc)
		}
		for _, ret := range []api.Type{point, {Dims: 1}, {Dims: -1}, {Dims: 5}, {Name: ";"}} {
			wantSign(t, Sig{Args: args, Ret: ret, Void: true}, "", api.ErrDesc)
		}
	}
}

func TestD2_1NothingIsShared(t *testing.T) {
	array := []api.Type{{}, {Name: "A"}, {Dims: 9}}
	wantSign(t, Sig{Args: array[:2], Void: true}, "(ILA;)V", api.OK)
	if !slices.Equal(array, []api.Type{{}, {Name: "A"}, {Dims: 9}}) {
		t.Errorf("Sign changed its argument: %v", array)
	}
	m, _ := Method("(ILA;)V")
	_ = append(m.Args, api.Type{Dims: 1})
	m.Args[0], m.Args[1] = api.Type{Dims: 1}, api.Type{Dims: 2}
	wantMethod(t, "(ILA;)V", Sig{Args: []api.Type{{}, {Name: "A"}}, Void: true}, api.OK)
}

func TestD2_2ElementArrayOfIsRef(t *testing.T) {
	for _, r := range rows() {
		if got := IsRef(r.t); got != (r.s != "I") {
			t.Errorf("IsRef of %s is %v", r.s, got)
		}
		want, wantOk := api.Type{Dims: r.t.Dims - 1, Name: r.t.Name}, true
		if r.s[0] != '[' {
			want, wantOk = api.Type{}, false
		}
		if got, ok := Element(r.t); got != want || ok != wantOk {
			t.Errorf("Element of %s is %v, %v", r.s, got, ok)
		}
		want, wantOk = api.Type{Dims: r.t.Dims + 1, Name: r.t.Name}, true
		if strings.HasPrefix(r.s, "[[[[") {
			want, wantOk = api.Type{}, false
		}
		if got, ok := ArrayOf(r.t); got != want || ok != wantOk {
			t.Errorf("ArrayOf %s is %v, %v", r.s, got, ok)
		}
	}
}

func TestD2_2NoType(t *testing.T) {
	l := badTypes()
	for _, s := range badNames() {
		l = append(l, api.Type{Dims: 1, Name: s}, api.Type{Dims: 4, Name: s})
	}
	for _, x := range l {
		if got, ok := Element(x); got != (api.Type{}) || ok {
			t.Errorf("Element of %s is %s, %v", tell(x), tell(got), ok)
		}
		if got, ok := ArrayOf(x); got != (api.Type{}) || ok {
			t.Errorf("ArrayOf %s is %s, %v", tell(x), tell(got), ok)
		}
		if IsRef(x) {
			t.Errorf("IsRef of %s is true", tell(x))
		}
	}
}

// fieldForm and methodForm are the forms of descriptors, told by the library.
var (
	fieldForm  = regexp.MustCompile(`^` + typeForm + `$`)
	methodForm = regexp.MustCompile(`^\((` + typeForm + `)*\)(` + typeForm + `|V)$`)
)

const typeForm = `\[{0,4}(?:I|L[^\x00-\x20\x7f;\[().]{1,64};)`

// eachShort goes through all strings of up to n bytes of an alphabet.
func eachShort(alphabet string, n int, f func(s string)) {
	f("")
	if n == 0 {
		return
	}
	for _, c := range alphabet {
		eachShort(alphabet, n-1, func(s string) { f(string(c) + s) })
	}
}

// TestD2_3EachShort holds each short string against the forms, and reads and writes it there and back.
func TestD2_3EachShort(t *testing.T) {
	eachShort("[IVL;()a.", 6, func(s string) {
		checkField(t, s)
		checkMethod(t, s)
	})
	eachShort("[ILA;", 8, func(s string) { checkField(t, s) })
	eachShort("IV)L;", 7, func(s string) { checkMethod(t, "("+s) })
}

// checkField holds what follows for a string, taken as the descriptor of a type.
func checkField(t *testing.T, s string) {
	t.Helper()
	x, e := Field(s)
	if e != api.OK {
		if e != api.ErrDesc || x != (api.Type{}) || fieldForm.MatchString(s) {
			t.Errorf("Field(%q): %v, %d", s, x, e)
		}
		return
	}
	if !fieldForm.MatchString(s) {
		t.Errorf("Field(%q) is %v", s, x)
	}
	wantWrite(t, x, s, api.OK)
}

// checkMethod holds what follows for a string, taken as the descriptor of a signature.
func checkMethod(t *testing.T, s string) {
	t.Helper()
	m, e := Method(s)
	if e != api.OK {
		right := e == api.ErrDesc && !methodForm.MatchString(s) || e == api.ErrMany && methodForm.MatchString(s)
		if !right || !sameSig(m, Sig{}) {
			t.Errorf("Method(%q): %v, %d", s, m, e)
		}
		return
	}
	if !methodForm.MatchString(s) || len(m.Args) > 16 {
		t.Errorf("Method(%q) is %v", s, m)
	}
	wantSign(t, m, s, api.OK)
}

func TestD2_3ThereAndBack(t *testing.T) {
	types := rows()
	for d := range 5 {
		for _, r := range rows() {
			x := api.Type{Dims: d, Name: r.t.Name}
			types = append(types, row{strings.Repeat("[", d) + strings.TrimLeft(r.s, "["), x})
		}
	}
	for _, r := range types {
		checkField(t, r.s)
		wantField(t, r.s, r.t, api.OK)
		wantWrite(t, r.t, r.s, api.OK)
		if a, ok := ArrayOf(r.t); ok {
			if back, ok := Element(a); back != r.t || !ok {
				t.Errorf("Element of ArrayOf %v is %v, %v", r.t, back, ok)
			}
		}
		if x, ok := Element(r.t); ok {
			if back, ok := ArrayOf(x); back != r.t || !ok {
				t.Errorf("ArrayOf of Element %v is %v, %v", r.t, back, ok)
			}
		}
	}
	for s, m := range sigs() {
		checkMethod(t, s)
		back, e := Method(s)
		if !sameSig(back, m) || e != api.OK {
			t.Errorf("Method(%q) is %v, %d", s, back, e)
		}
	}
}

// FuzzDescriptors holds what follows for any string, taken as a descriptor, as a name, and as both.
func FuzzDescriptors(f *testing.F) {
	for s := range sigs() {
		f.Add(s)
	}
	for _, s := range badFields()[:20] {
		f.Add(s)
	}
	f.Fuzz(func(t *testing.T, s string) {
		for _, s := range []string{s, "[L" + s + ";", "(L" + s + ";)V", "(" + s + ")V"} {
			if x, e := Field(s); e == api.OK {
				wantWrite(t, x, s, api.OK)
			}
			if m, e := Method(s); e == api.OK {
				wantSign(t, m, s, api.OK)
			}
		}
		if d, e := Write(api.Type{Name: s}); e == api.OK {
			wantField(t, d, api.Type{Name: s}, api.OK)
		}
	})
}
