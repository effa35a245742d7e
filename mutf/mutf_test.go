package mutf

import (
	"math"
	"slices"
	"strings"
	"testing"
	"unicode/utf16"
	"unicode/utf8"

	"crucible/api"
)

// brokenTexts are strings that are not in valid UTF-8.
func brokenTexts() []string {
	return []string{
		"\xff", "\x80", "a\xc3", "\xc3a", "\xc0\x80", "\xc1\x81", "\xe0\x9f\xbf", "\xe2\x82",
		"\xed\xa0\x80", "\xed\xbf\xbf", "\xed\xa0\xbd\xed\xb8\x80", "\xef\xbf", "\xef\xbf\xbd\xff", "\xff\xef\xbf\xbd",
		"\xf0\x8f\xbf\xbf", "\xf0\x9f\x98", "\xf4\x90\x80\x80", "\xf8\x88\x80\x80\x80",
	}
}

// goodTexts are texts.
func goodTexts() []string {
	return []string{
		"", "a", "\x00", "\x00\x00", "aé€", "\u007f\u0080", "\u07ff\u0800", "\ud7ff\ue000", "\ufffd", "a\ufffdb", "\ufffe\uffff",
		"\U00010000", "\U0001f600", "\U0010ffff", "a\x00é€\U0001f600z", strings.Repeat("\U0001f600", 3),
	}
}

// bytesOf is the encoding of one rune, worked out by way of the library's UTF-16.
func bytesOf(r rune) string {
	var b []byte
	for _, u := range utf16.Encode([]rune{r}) {
		switch {
		case u == 0 || u >= 0x80 && u <= 0x7FF:
			b = append(b, 0xC0|byte(u>>6), 0x80|byte(u)&0x3F)
		case u < 0x80:
			b = append(b, byte(u))
		default:
			b = append(b, 0xE0|byte(u>>12), 0x80|byte(u>>6)&0x3F, 0x80|byte(u)&0x3F)
		}
	}
	return string(b)
}

func eachScalar(f func(r rune)) {
	for r := rune(0); r <= utf8.MaxRune; r++ {
		if utf8.ValidRune(r) {
			f(r)
		}
	}
}

// wantText fails unless a text and an error are as asked.
func wantText(t *testing.T, call, got string, e api.Errno, want string, wantErr api.Errno) {
	t.Helper()
	if got != want || e != wantErr {
		t.Errorf("%s: %.40q, %d; want %.40q, %d", call, got, e, want, wantErr)
	}
}

func TestM1EncodeAndDecode(t *testing.T) {
	for _, c := range []struct{ text, bytes string }{
		{"", ""},
		{"a", "a"},
		{"aé€", "a\xc3\xa9\xe2\x82\xac"},
		{"\x00", "\xc0\x80"},
		{"a\x00b", "a\xc0\x80b"},
		{"\x01\x7f", "\x01\x7f"},
		{"\u0080\u07ff", "\xc2\x80\xdf\xbf"},
		{"\u0800\ud7ff\ue000\uffff", "\xe0\xa0\x80\xed\x9f\xbf\xee\x80\x80\xef\xbf\xbf"},
		{"\ufffd", "\xef\xbf\xbd"},
		{"\U00010000", "\xed\xa0\x80\xed\xb0\x80"},
		{"\U0001f600", "\xed\xa0\xbd\xed\xb8\x80"},
		{"\U0010ffff", "\xed\xaf\xbf\xed\xbf\xbf"},
	} {
		b, e := Encode(c.text)
		wantText(t, "Encode", b, e, c.bytes, api.OK)
		s, e := Decode(c.bytes)
		wantText(t, "Decode", s, e, c.text, api.OK)
	}
}

func TestM1EachRune(t *testing.T) {
	eachScalar(func(r rune) {
		b, e := Encode(string(r))
		wantText(t, "Encode", b, e, bytesOf(r), api.OK)
		s, e := Decode(bytesOf(r))
		wantText(t, "Decode", s, e, string(r), api.OK)
	})
}

func TestM1EncodeOfNoText(t *testing.T) {
	for _, s := range brokenTexts() {
		b, e := Encode(s)
		wantText(t, "Encode", b, e, "", api.ErrForm)
	}
}

func TestM1EncodeLength(t *testing.T) {
	for _, c := range []struct {
		text string
		e    api.Errno
	}{
		{strings.Repeat("a", 65535), api.OK},
		{strings.Repeat("a", 65536), api.ErrLong},
		{strings.Repeat("\x00", 32767) + "a", api.OK},
		{strings.Repeat("\x00", 32768), api.ErrLong},
		{strings.Repeat("é", 32767) + "a", api.OK},
		{strings.Repeat("é", 32768), api.ErrLong},
		{strings.Repeat("€", 21845), api.OK},
		{strings.Repeat("€", 21845) + "a", api.ErrLong},
		{strings.Repeat("\U0001f600", 10922) + "abc", api.OK},
		{strings.Repeat("\U0001f600", 10922) + "abcd", api.ErrLong},
		{strings.Repeat("\U00010000", 10922) + "abcd", api.ErrLong},
		{strings.Repeat("a", 65536) + "\xff", api.ErrForm},
		{"\xff" + strings.Repeat("a", 65536), api.ErrForm},
	} {
		b, e := Encode(c.text)
		if e != c.e || (e == api.OK) != (len(b) == 65535) || e != api.OK && b != "" {
			t.Errorf("Encode(%.10q ..): %d bytes, %d; want %d", c.text, len(b), e, c.e)
		}
	}
}

func TestM1DecodeOfNoEncoding(t *testing.T) {
	for _, b := range []string{
		"\x00", "a\x00", "a\x00a", // a byte 0
		"\xc1\x81", "\xc0\x81", "\xc1\xbf", // two bytes for 1 to 0x7F
		"\xe0\x80\x80", "\xe0\x81\x81", "\xe0\x9f\xbf", // three bytes for less than 0x800
		"\xc3", "\xe2", "\xe2\x82", "\xed\xa0\xbd\xed", "\xed\xa0\xbd\xed\xb8", // the end is missing
		"\xc3a", "\xc3\xc3", "\xe2a\x82", "\xe2\x82a", "\xe2\x82\xe2", // no byte that goes on
		"\x80", "\xbf", "a\x80", "\xc3\xa9\xa9", // a byte that goes on from nothing
		"\xf0\x9f\x98\x80", "\xf0\x80\x80\x80", "\xf8", "\xff", "\xfe", // no first byte
		"\xed\xa0\xbd", "\xed\xb8\x80", "\xed\xa0\xbda", "a\xed\xb8\x80", // half of a pair
		"\xed\xa0\xbd\xed\xa0\xbd", "\xed\xb8\x80\xed\xb8\x80", "\xed\xb8\x80\xed\xa0\xbd", // halves in a wrong order
		"\xed\xa0\xbd\xed\x9f\xbf", "\xed\xa0\xbd\xee\x80\x80", "\xed\xa0\xbd\xc3\xa9", // half of a pair ahead of another rune
		"\xed\xa0\xbda\xed\xb8\x80", "\xed\xa0\xbd\xed\xb8\x80\xed\xb8\x80", // halves apart, half too many
		"good\xff", "\xffgood",
	} {
		s, e := Decode(b)
		wantText(t, "Decode", s, e, "", api.ErrForm)
	}
}

// TestM1DecodeOfShort goes through all strings of up to three bytes: as many are encodings as there are, and each of these comes back.
func TestM1DecodeOfShort(t *testing.T) {
	one, two, three := 127, 1+0x800-0x80, 0x10000-0x800-0x800
	want := [4]int{1, one, one*one + two, one*one*one + 2*one*two + three}
	var got [4]int
	for n := range got {
		for i := range 1 << (8 * n) {
			b := string([]byte{byte(i >> 16), byte(i >> 8), byte(i)}[3-n:])
			s, e := Decode(b)
			if e != api.OK {
				if s != "" || e != api.ErrForm {
					t.Fatalf("Decode(%x): %q, %d", b, s, e)
				}
				continue
			}
			got[n]++
			if back, e := Encode(s); back != b || e != api.OK {
				t.Fatalf("Decode(%x) is %q, Encode of it %x, %d", b, s, back, e)
			}
		}
	}
	if got != want {
		t.Errorf("%v strings are encodings, want %v", got, want)
	}
}

func TestM1DecodeLength(t *testing.T) {
	long := strings.Repeat("a", 65535)
	s, e := Decode(long)
	wantText(t, "Decode", s, e, long, api.OK)
	for _, b := range []string{long + "a", long + "\x00", long + "\xff"} {
		s, e := Decode(b)
		wantText(t, "Decode", s, e, "", api.ErrLong)
	}
	s, e = Decode(long[1:] + "\xff")
	wantText(t, "Decode", s, e, "", api.ErrForm)
}

// runesOf lists what a text and a broken string consist of, by the library.
func runesOf(s string) []rune {
	var l []rune
	for s != "" {
		r, n := utf8.DecodeRuneInString(s)
		l = append(l, r)
		s = s[n:]
	}
	return l
}

func TestM2LenAtRunes(t *testing.T) {
	for _, s := range append(append(goodTexts(), brokenTexts()...), "aé€\xff") {
		want := runesOf(s)
		if n := Len(s); n != len(want) {
			t.Errorf("Len(%q) is %d, want %d", s, n, len(want))
		}
		if l := Runes(s); !slices.Equal(l, want) {
			t.Errorf("Runes(%q) is %q, want %q", s, l, want)
		}
		for i, r := range want {
			if got, ok := At(s, i); got != r || !ok {
				t.Errorf("At(%q, %d) is %q, %v, want %q", s, i, got, ok, r)
			}
		}
	}
}

func TestM2Examples(t *testing.T) {
	if n := Len("aé€\xff"); n != 4 {
		t.Error(n)
	}
	if r, ok := At("aé€", 2); r != '€' || !ok {
		t.Error(r, ok)
	}
	if r, ok := At("aé€\xff", 3); r != 0xFFFD || !ok {
		t.Error(r, ok)
	}
	if r, ok := At("\x00", 0); r != 0 || !ok {
		t.Error(r, ok)
	}
	if l := Runes("aé€"); !slices.Equal(l, []rune{'a', 'é', '€'}) {
		t.Error(l)
	}
}

func TestM2AtOutside(t *testing.T) {
	for _, c := range []struct {
		s string
		i int
	}{{"", 0}, {"a", 1}, {"aé€", 3}, {"aé€", 6}, {"aé€", -1}, {"aé€", math.MinInt}, {"aé€", math.MaxInt}, {"\xff", 1}} {
		if r, ok := At(c.s, c.i); r != 0 || ok {
			t.Errorf("At(%q, %d) is %q, %v", c.s, c.i, r, ok)
		}
	}
}

func TestM2Make(t *testing.T) {
	for _, s := range goodTexts() {
		got, e := Make(runesOf(s))
		wantText(t, "Make", got, e, s, api.OK)
	}
	for _, r := range []rune{-1, math.MinInt32, 0xD800, 0xDBFF, 0xDC00, 0xDFFF, 0x110000, math.MaxInt32} {
		for _, l := range [][]rune{{r}, {'a', r}, {r, 'a'}} {
			got, e := Make(l)
			wantText(t, "Make", got, e, "", api.ErrArg)
		}
	}
	for _, r := range []rune{0, 0xD7FF, 0xE000, 0xFFFD, 0x10FFFF} {
		got, e := Make([]rune{r})
		wantText(t, "Make", got, e, string(r), api.OK)
	}
}

func TestM2NothingIsShared(t *testing.T) {
	l := []rune{'a', 0x20AC, 0xD800}
	s, e := Make(l[:2])
	wantText(t, "Make", s, e, "a€", api.OK)
	if !slices.Equal(l, []rune{'a', 0x20AC, 0xD800}) {
		t.Errorf("Make changed its argument: %v", l)
	}
	l[0] = 'b'
	wantText(t, "Make, later", s, e, "a€", api.OK)
	Runes("abc")[0] = 'z'
	if again := Runes("abc"); again[0] != 'a' {
		t.Errorf("Runes shares what it answers: %q", again)
	}
}

func TestM3Name(t *testing.T) {
	for _, s := range []string{
		"a", "Point", "<init>", "<", "é", "€", "\U0001f600", "\ufffd", "a/b", "a]", "{a}", "a:b", "a,b", "0", "-1", "'\"\\",
		"!", "~", "\u0080", "\u009f", "\u00a0", "\u2028",
		strings.Repeat("a", 64), strings.Repeat("é", 64), strings.Repeat("\U0001f600", 64),
	} {
		if !Name(s) {
			t.Errorf("%q is no name", s)
		}
	}
	for _, s := range append(brokenTexts(),
		"", " ", "a b", " a", "a ", "a.b", "a;", ";", "[", "[a", "a[", "(", "a(", ")", "a)", ".", "\x7f", "a\x7f", "a\n", "a\tb", "\x00", "a\x00",
		"a\xff", "\xffa", strings.Repeat("a", 65), strings.Repeat("é", 65), strings.Repeat("a", 64)+"\xff", strings.Repeat("a", 63)+"\xff", strings.Repeat("a", 1<<20),
	) {
		if Name(s) {
			t.Errorf("%.80q is a name", s)
		}
	}
}

func TestM3EachRune(t *testing.T) {
	eachScalar(func(r rune) {
		want := r > 32 && r != 127 && !strings.ContainsRune(";[().", r)
		for _, s := range []string{string(r), "a" + string(r), string(r) + "a"} {
			if Name(s) != want {
				t.Errorf("Name(%q) is %v", s, !want)
			}
		}
	})
}

func TestM4ThereAndBack(t *testing.T) {
	for _, a := range goodTexts() {
		for _, b := range goodTexts() {
			checkText(t, a+b)
		}
	}
	eachScalar(func(r rune) { checkText(t, "é"+string(r)+"\x00") })
}

// checkText holds what follows for a text.
func checkText(t *testing.T, text string) {
	t.Helper()
	b, e := Encode(text)
	if e != api.OK || strings.Contains(b, "\x00") {
		t.Errorf("Encode(%q) is %x, %d", text, b, e)
	}
	s, e := Decode(b)
	wantText(t, "Decode of Encode", s, e, text, api.OK)
	s, e = Make(Runes(text))
	wantText(t, "Make of Runes", s, e, text, api.OK)
}

func TestM4EncodingsDiffer(t *testing.T) {
	from := map[string]string{}
	for _, x := range goodTexts() {
		for _, y := range goodTexts() {
			b, _ := Encode(x + y)
			if old, ok := from[b]; ok && old != x+y {
				t.Errorf("%q and %q have the encoding %x", old, x+y, b)
			}
			from[b] = x + y
		}
	}
}

// FuzzDecode holds what follows for any bytes, taken as a text and as an encoding.
func FuzzDecode(f *testing.F) {
	for _, s := range append(goodTexts(), brokenTexts()...) {
		f.Add(s)
	}
	f.Fuzz(func(t *testing.T, s string) {
		if text, e := Decode(s); e == api.OK {
			back, e := Encode(text)
			wantText(t, "Encode of Decode", back, e, s, api.OK)
		} else if text != "" {
			t.Errorf("Decode(%x): %q, %d", s, text, e)
		}
		if _, e := Encode(s); e == api.OK {
			checkText(t, s)
		} else if e == api.ErrForm && utf8.ValidString(s) {
			t.Errorf("Encode(%q): %d", s, e)
		}
	})
}
