package transfer

import (
	"math"
	"strings"
	"testing"

	"crucible/api"
)

func TestX1Start(t *testing.T) {
	for _, c := range []struct {
		flags      int
		name, desc string
		locals     int
		want       string
	}{
		{1, "f", "()V", 0, "|"},
		{1, "f", "()V", 2, "top top|"},
		{0, "f", "()V", 1, "B|"},
		{0, "f", "(ILA;)V", 4, "B int A top|"},
		{0, "f", "(ILA;)V", 3, "B int A|"},
		{1, "f", "(ILA;)V", 2, "int A|"},
		{0, "<init>", "()V", 1, "this|"},
		{0, "<init>", "([I[[LB;Lnowhere;)V", 6, "this [ [[B nowhere top top|"},
		{1, "<clinit>", "()V", 1, "top|"},
		{0, "f", "(III)[I", 5, "B int int int top|"}, // what it answers is no local
		{1, "f", "(" + strings.Repeat("I", 16) + ")V", 16, strings.Repeat("int ", 16) + "|"},
		{1, "f", "()V", 64, strings.Repeat("top ", 64) + "|"},
		{0, "f", "()V", 0, "ErrLocal"},
		{0, "<init>", "()V", 0, "ErrLocal"},
		{1, "f", "(I)V", 0, "ErrLocal"},
		{0, "f", "(ILA;)V", 2, "ErrLocal"},
		{0, "f", "(" + strings.Repeat("I", 16) + ")V", 16, "ErrLocal"},
	} {
		b := newBench(t, c.flags, c.name, c.desc)
		b.locals, b.stack = c.locals, 0
		s, e := Start(b.method(t))
		want := c.want
		if e == api.OK {
			want = showState(state(c.want))
		}
		if got := answer(t, s, e == api.OK, e); got != want {
			t.Errorf("%s%s with %d: %s; want %s", c.name, c.desc, c.locals, got, want)
		}
	}
}

func TestX2Moves(t *testing.T) {
	b := newBench(t, 1, "f", "()V")
	b.wantRows(t, []row{
		{"nop", "int A|null new0", "int A|null new0"}, {"goto", "top|top", "top|top"}, {"yield", "|", "|"},
		{"int 5", "A|A", "A|A int"}, {"int 5", "|int int int", "|int int int int"}, {"int 5", "|int int int int", "ErrStack"},
		{"int -9223372036854775808", "|", "|int"},
		{"int #0", "|", "ErrPool"}, {"int #-1", "|", "ErrPool"}, {"int #2001", "|", "ErrPool"}, {"int 3:m", "|", "ErrPool"}, {"int 1:m", "|int int int int", "ErrPool"},
		{"text m", "A|A", "A|A String"}, {"text m", "|int int int int", "ErrStack"}, {"text 2:5", "|", "ErrPool"}, {"text 1:m", "|", "ErrPool"}, {"text #0", "|int int int int", "ErrPool"},
		{"null", "|", "|null"}, {"null", "|A A A", "|A A A null"}, {"null", "|A A A A", "ErrStack"},
		{"load 0", "int|A", "int|A int"}, {"load 2", "top top new3|", "top top new3|new3"}, {"load 1", "top this|", "top this|this"}, {"load 0", "null|", "null|null"},
		{"load 3", "int int int|", "ErrLocal"}, {"load 255", "int int int|int int int int", "ErrLocal"}, {"load -1", "int|", "ErrLocal"},
		{"load 1", "int top int|", "ErrType"}, {"load 0", "top|int int int int", "ErrType"}, {"load 0", "A|int int int int", "ErrStack"},
		{"store 0", "int A|B null", "null A|B"}, {"store 1", "int A|top", "int top|"}, {"store 0", "A|new0", "new0|"}, {"store 2", "int int int|this", "int int this|"},
		{"store 0", "A|", "ErrStack"}, {"store 3", "int int int|", "ErrLocal"}, {"store -1", "int|int", "ErrLocal"}, {"store 255", "int|", "ErrLocal"},
		{"pop", "A|int top", "A|int"}, {"pop", "A|", "ErrStack"},
		{"dup", "A|int top", "A|int top top"}, {"dup", "|new0", "|new0 new0"}, {"dup", "|", "ErrStack"}, {"dup", "|int int int A", "ErrStack"}, {"dup", "|int int A", "|int int A A"},
		{"swap", "A|int null top", "A|int top null"}, {"swap", "|int int A null", "|int int null A"}, {"swap", "|int", "ErrStack"}, {"swap", "|", "ErrStack"},
	}...)
	b.stack = 0
	b.wantRows(t, row{"null", "|", "ErrStack"}, row{"int #0", "|", "ErrPool"}, row{"load 0", "top|", "ErrType"})
}

// What the stack may hold is the method's matter, how many locals there are the state's.
func TestX2Bounds(t *testing.T) {
	b := newBench(t, 1, "f", "()V")
	b.stack, b.locals = 64, 64
	full := strings.Repeat("int ", 63)
	b.wantRows(t, row{"null", "|" + full, "|" + full + "null"}, row{"null", "|int " + full, "ErrStack"}, row{"load 63", full + "A|", full + "A|A"}, row{"load 64", full + "A|", "ErrLocal"})
	b.stack, b.locals = 1, 0
	b.wantRows(t, row{"dup", "|int", "ErrStack"}, row{"null", "|", "|null"})
}

// ops of which all have one rule.
var (
	twoInts = strings.Fields("add sub mul div rem and or xor shl shr")
	oneJump = strings.Fields("ifeq ifne iflt ifge join print")
)

func TestX2Numbers(t *testing.T) {
	b := newBench(t, 1, "f", "()V")
	for _, op := range twoInts {
		b.wantRows(t, row{op, "A|B int int", "A|B int"}, row{op, "|int int int int", "|int int int"}, row{op, "|int", "ErrStack"}, row{op, "|", "ErrStack"},
			row{op, "|null int", "ErrType"}, row{op, "|int null", "ErrType"}, row{op, "|null", "ErrType"}, row{op, "|int top", "ErrType"}, row{op, "|A int", "ErrType"})
	}
	b.wantRows(t, row{"neg", "A|B int", "A|B int"}, row{"neg", "|int int int int", "|int int int int"}, row{"neg", "|", "ErrStack"}, row{"neg", "|top", "ErrType"}, row{"neg", "|null", "ErrType"})
	for _, op := range oneJump {
		b.wantRows(t, row{op, "A|B int", "A|B"}, row{op, "|", "ErrStack"}, row{op, "|null", "ErrType"}, row{op, "|top", "ErrType"}, row{op, "|int new0", "ErrType"}, row{op, "|int this", "ErrType"})
	}
	for _, op := range []string{"cmpeq", "cmplt"} {
		b.wantRows(t, row{op, "A|B int int", "A|B"}, row{op, "|int", "ErrStack"}, row{op, "|", "ErrStack"}, row{op, "|A int", "ErrType"}, row{op, "|int A", "ErrType"}, row{op, "|A", "ErrType"})
	}
	for _, op := range []string{"ifnull", "ifsome", "enter", "exit"} {
		b.wantRows(t, row{op, "A|B null", "A|B"}, row{op, "|B", "|"}, row{op, "|[", "|"}, row{op, "|nowhere", "|"}, row{op, "|", "ErrStack"},
			row{op, "|int", "ErrType"}, row{op, "|top", "ErrType"}, row{op, "|A new0", "ErrType"}, row{op, "|A this", "ErrType"})
	}
	b.wantRows(t, row{"same", "A|B null [", "A|B"}, row{"same", "|A", "ErrStack"}, row{"same", "|", "ErrStack"}, row{"same", "|A int", "ErrType"}, row{"same", "|int A", "ErrType"}, row{"same", "|top", "ErrType"}, row{"same", "|new0 A", "ErrType"}, row{"same", "|A this", "ErrType"})
}

func TestX2Switch(t *testing.T) {
	b := newBench(t, 1, "f", "()V")
	text := b.link(api.PoolText, "m")
	b.wantRows(t, []row{
		{"switch", "A|A int", "A|A"}, {"switch 5", "|int", "|"}, {"switch -5 0 5", "|int", "|"}, {"switch -9223372036854775808 9223372036854775807", "|int", "|"},
		{"switch 5 5", "|int", "ErrArg"}, {"switch 5 3", "|int", "ErrArg"}, {"switch 1 5 4", "|int", "ErrArg"}, {"switch 1 0 5", "|", "ErrArg"}, {"switch 9223372036854775807 -9223372036854775808", "|int", "ErrArg"},
		{"switch 3 #0", "|int", "ErrPool"}, {"switch #2001 3", "|", "ErrPool"}, {"switch #-1", "|int", "ErrPool"},
		{"switch 5 3 #0", "|int", "ErrArg"}, {"switch 3 #0 2", "|int", "ErrPool"},
		{"switch 3 5", "|", "ErrStack"}, {"switch 3 5", "|null", "ErrType"}, {"switch", "|", "ErrStack"}, {"switch", "|top", "ErrType"},
	}...)
	if _, _, e := Step(b.method(t), api.Instr{Op: api.Switch, Keys: []int{text}}, state("|int")); e != api.ErrPool {
		t.Error(e)
	}
}

func TestX2New(t *testing.T) {
	b := newBench(t, 1, "f", "()V")
	b.wantRows(t, []row{
		{"new A", "A|int", "A|int new0"}, {"new B @3", "new0 new3 A|new0 new4", "new0 top A|new0 new4 new3"}, {"new A", "new0 new0|", "top top|new0"},
		{"new Object", "|", "|new0"}, {"new Throwable @5", "|", "|new5"}, {"new Deep", "|", "|new0"}, {"new A", "|int int int", "|int int int new0"},
		{"new A", "|int int int int", "ErrStack"},
		{"new #0", "|", "ErrPool"}, {"new 1:A", "|", "ErrPool"}, {"new 7:LA;", "|", "ErrPool"}, {"new #2001", "|top", "ErrPool"},
		{"new nowhere", "|", "ErrClass"}, {"new nowhere", "|new0", "ErrClass"},
		{"new Q", "|", "ErrKind"}, {"new I", "|", "ErrKind"}, {"new String", "|", "ErrKind"}, {"new Weak", "|", "ErrKind"}, {"new Loader", "|new0", "ErrKind"}, {"new R", "|top", "ErrKind"},
		{"new A", "|new0", "ErrInit"}, {"new A @3", "|new3 int", "ErrInit"}, {"new A", "|top", "ErrInit"}, {"new A", "|A top A", "ErrInit"}, {"new A", "|new0 int int int", "ErrInit"}, {"new A", "|int int int top", "ErrInit"},
		{"new A @3", "top|this new0 null", "top|this new0 null new3"},
	}...)
}

func TestX2Arrays(t *testing.T) {
	b := newBench(t, 1, "f", "()V")
	b.wantRows(t, []row{
		{"array I", "A|A int", "A|A ["}, {"array LA;", "|int", "|[A"}, {"array [[[LI;", "|int", "|[[[[I"}, {"array [[I", "|int", "|[[["}, {"array LString;", "|int int int int", "|int int int [String"},
		{"array #0", "|int", "ErrPool"}, {"array 4:A", "|int", "ErrPool"}, {"array 1:LA;", "|", "ErrPool"},
		{"array Lnowhere;", "|int", "ErrClass"}, {"array [[[[Lnowhere;", "|", "ErrClass"},
		{"array LA;", "|", "ErrStack"}, {"array [[[[I", "|", "ErrStack"}, {"array LA;", "|null", "ErrType"}, {"array [[[[LA;", "|A", "ErrType"},
		{"array [[[[LA;", "|int", "ErrDesc"}, {"array [[[[I", "|int", "ErrDesc"},
		{"len", "A|A [", "A|A int"}, {"len", "|[A", "|int"}, {"len", "|[[[[nowhere", "|int"}, {"len", "|null", "|int"},
		{"len", "|", "ErrStack"}, {"len", "|int", "ErrType"}, {"len", "|A", "ErrType"}, {"len", "|Object", "ErrType"}, {"len", "|new0", "ErrType"}, {"len", "|top", "ErrType"},
		{"aget", "A|A [ int", "A|A int"}, {"aget", "|[A int", "|A"}, {"aget", "|[[ int", "|["}, {"aget", "|[[[[nowhere int", "|[[[nowhere"},
		{"aget", "A|A null int", "none"}, {"aget", "|", "ErrStack"}, {"aget", "|int", "ErrStack"}, {"aget", "|null", "ErrType"}, {"aget", "|[ null", "ErrType"}, {"aget", "|null null", "ErrType"},
		{"aget", "|int int", "ErrType"}, {"aget", "|A int", "ErrType"}, {"aget", "|Object int", "ErrType"}, {"aget", "|new0 int", "ErrType"}, {"aget", "|this int", "ErrType"},
		{"aput", "A|A [ int int", "A|A"}, {"aput", "|[A int A", "|"}, {"aput", "|[A int null", "|"}, {"aput", "|[A int [", "|"}, {"aput", "|[A int Object", "|"}, {"aput", "|[[ int nowhere", "|"},
		{"aput", "|null int int", "none"}, {"aput", "|null int top", "none"}, {"aput", "|null int new0", "none"}, {"aput", "B|null int A", "none"},
		{"aput", "|", "ErrStack"}, {"aput", "|int", "ErrStack"}, {"aput", "|int int", "ErrStack"}, {"aput", "|A int", "ErrType"}, {"aput", "|[ null int", "ErrType"}, {"aput", "|null A int", "ErrType"},
		{"aput", "|int int int", "ErrType"}, {"aput", "|top int int", "ErrType"}, {"aput", "|A int A", "ErrType"}, {"aput", "|Object int int", "ErrType"}, {"aput", "|new0 int A", "ErrType"},
		{"aput", "|[ int null", "ErrType"}, {"aput", "|[ int A", "ErrType"}, {"aput", "|[ int top", "ErrType"}, {"aput", "|[A int int", "ErrType"}, {"aput", "|[A int new0", "ErrType"}, {"aput", "|[A int this", "ErrType"}, {"aput", "|[[ int int", "ErrType"}, {"aput", "|[[ int top", "ErrType"},
	}...)
}

func TestX2Fields(t *testing.T) {
	b := newBench(t, 1, "f", "()V")
	b.wantRows(t, []row{
		{"get A.x I", "A|int A", "A|int int"}, {"get A.x LC;", "|D", "|C"}, {"get A.x [I", "|null", "|["}, {"get I.x Lnowhere;", "|B", "|nowhere"}, {"get Object.x I", "|[", "|int"}, {"get String.x I", "|String", "|int"},
		{"get A.x I", "|", "ErrStack"}, {"get B.x I", "|A", "ErrType"}, {"get J.x I", "|A", "ErrType"}, {"get A.x I", "|int", "ErrType"}, {"get A.x I", "|new0", "ErrType"}, {"get A.x I", "|this", "ErrType"}, {"get A.x I", "|[A", "ErrType"}, {"get A.x I", "|top", "ErrType"},
		{"put A.x I", "A|int A int", "A|int"}, {"put A.x LB;", "|D null", "|"}, {"put A.x LB;", "|null D", "|"}, {"put A.x Lnowhere;", "|A nowhere", "|"}, {"put A.x LI;", "|A A", "|"},
		{"put A.x I", "|", "ErrStack"}, {"put A.x I", "|int", "ErrStack"}, {"put A.x I", "|A", "ErrType"}, {"put A.x I", "|int A", "ErrType"}, {"put A.x LB;", "|A A", "ErrType"}, {"put B.x I", "|A int", "ErrType"}, {"put A.x LA;", "|A new0", "ErrType"}, {"put A.x LA;", "|new0 A", "ErrType"}, {"put A.x Lnowhere;", "|A A", "ErrType"},
		{"sget A.x I", "A|A", "A|A int"}, {"sget I.x [LB;", "|", "|[B"}, {"sget A.x Lnowhere;", "|", "|nowhere"}, {"sget A.x I", "|A A A A", "ErrStack"}, {"sget A.x I", "|A A A", "|A A A int"},
		{"sput A.x I", "A|A int", "A|A"}, {"sput Q.x LA;", "|B", "|"}, {"sput A.x LA;", "|null", "|"}, {"sput A.x I", "|", "ErrStack"}, {"sput A.x I", "|null", "ErrType"}, {"sput A.x LB;", "|A", "ErrType"},
	}...)
	for _, op := range []string{"get", "put", "sget", "sput"} {
		for _, link := range []string{"#0", "#-1", "#2001", "4:A", "6:A.x ()V", "1:x"} {
			b.wantRows(t, row{op + " " + link, "|A int", "ErrPool"}, row{op + " " + link, "|", "ErrPool"})
		}
		b.wantRows(t, row{op + " nowhere.x I", "|nowhere int", "ErrClass"}, row{op + " nowhere.x I", "|", "ErrClass"})
	}
}

func TestX2Calls(t *testing.T) {
	b := newBench(t, 1, "f", "()V")
	b.wantRows(t, []row{
		{"virt A.m ()V", "A|int A", "A|int"}, {"virt A.m (ILB;)I", "|D int D", "|int"}, {"virt A.m (ILB;)[LC;", "|null int null", "|[C"}, {"virt Object.m ()V", "|[", "|"}, {"virt Q.m ()Lnowhere;", "|Q", "|nowhere"}, {"virt String.m ()V", "|String", "|"},
		{"virt A.m (ILB;)V", "|A B int", "ErrType"}, {"virt A.m (ILB;)V", "|A int", "ErrType"}, {"virt A.m (ILB;)V", "|A int A", "ErrType"}, {"virt A.m (ILB;)V", "|int B", "ErrStack"}, {"virt A.m ()V", "|", "ErrStack"}, {"virt B.m ()V", "|A", "ErrType"}, {"virt A.m ()V", "|new0", "ErrType"}, {"virt A.m ()V", "|this", "ErrType"}, {"virt A.m ()V", "|int", "ErrType"},
		{"virt I.m ()V", "|A", "ErrKind"}, {"virt I.m ()V", "|", "ErrKind"},
		{"iface I.m ()V", "A|int A", "A|int"}, {"iface J.m (I)LI;", "|D int", "|I"}, {"iface I.m ()I", "|null", "|int"}, {"iface J.m ()V", "|A", "ErrType"}, {"iface I.m ()V", "|Object", "ErrType"}, {"iface I.m ()V", "|", "ErrStack"}, {"iface I.m (I)V", "|A", "ErrType"},
		{"iface A.m ()V", "|A", "ErrKind"}, {"iface Q.m ()V", "|", "ErrKind"}, {"iface Object.m ()V", "|A", "ErrKind"},
		{"stat A.m ()V", "A|int", "A|int"}, {"stat A.m (ILA;I)I", "|A int B int", "|A int"}, {"stat I.m ()LA;", "|", "|A"}, {"stat A.m ()I", "|A A A A", "ErrStack"}, {"stat A.m (I)I", "|A A A int", "|A A A int"}, {"stat A.m ()V", "|A A A A", "|A A A A"},
		{"stat A.m (I)V", "|", "ErrStack"}, {"stat A.m (II)V", "|int", "ErrStack"}, {"stat A.m (ILA;)V", "|A int", "ErrType"}, {"stat A.m (II)V", "|null int", "ErrType"},
		{"stat A.<init> ()V", "|", "ErrInit"}, {"virt A.<init> ()V", "|new0", "ErrInit"}, {"iface I.<init> ()V", "|", "ErrInit"}, {"iface A.<init> ()V", "|", "ErrInit"}, {"virt I.<init> ()V", "|", "ErrInit"},
	}...)
	for _, op := range []string{"virt", "iface", "stat", "spec"} {
		for _, link := range []string{"#0", "#-1", "#2001", "4:A", "5:A.x I", "1:m"} {
			b.wantRows(t, row{op + " " + link, "|A A", "ErrPool"}, row{op + " " + link, "|", "ErrPool"})
		}
		b.wantRows(t, row{op + " nowhere.m ()V", "|nowhere", "ErrClass"}, row{op + " nowhere.<clinit> ()V", "|", "ErrClass"}, row{op + " nowhere.<init> ()V", "|int", "ErrClass"})
		b.wantRows(t, row{op + " A.<clinit> ()V", "|A", "ErrInit"}, row{op + " I.<clinit> ()V", "|", "ErrInit"}, row{op + " A.<clinit> (I)V", "|", "ErrInit"})
	}
}

func TestX2SpecInit(t *testing.T) {
	b := newBench(t, 0, "f", "()V")
	b.wantRows(t, []row{
		{"spec A.<init> ()V", "int|A new0", "int|A"}, {"spec A.<init> ()V", "new0 new3 new0|new0 int new3 new0", "A new3 A|A int new3"}, {"spec A.<init> ()V", "top this new1|new0", "top this new1|"}, {"spec B.<init> (ILA;)V", "|new3 new3 int B", "|B"}, {"spec Object.<init> ()V", "new9|new9", "Object|"},
		{"spec B.<init> ()V", "|new0", "ErrInit"}, {"spec Object.<init> ()V", "|new0", "ErrInit"}, {"spec A.<init> ()V", "|new3", "ErrInit"}, {"spec A.<init> ()V", "|new6", "ErrInit"}, // a new of another class
		{"spec A.<init> ()V", "|new12", "ErrInit"}, {"spec A.<init> ()V", "|new15", "ErrInit"}, {"spec A.<init> ()V", "|new18", "ErrInit"}, // no new, or one of no class
		{"spec A.<init> ()V", "|new1", "ErrInit"}, {"spec A.<init> ()V", "|new4096", "ErrInit"}, // no instruction
		{"spec A.<init> ()V", "|", "ErrStack"}, {"spec A.<init> (I)V", "|int", "ErrStack"}, {"spec A.<init> (I)V", "|new0", "ErrType"}, {"spec A.<init> (LA;)V", "|new0 new0", "ErrType"}, {"spec A.<init> (I)V", "|", "ErrStack"},
		{"spec A.<init> ()V", "|A", "ErrInit"}, {"spec A.<init> ()V", "|null", "ErrInit"}, {"spec A.<init> ()V", "|int", "ErrInit"}, {"spec A.<init> ()V", "|top", "ErrInit"},
		{"spec I.<init> ()V", "|new0", "ErrKind"}, {"spec I.<init> ()V", "|this", "ErrKind"},
		{"spec A.<init> ()I", "|new0", "|int"}, // what such a method would answer
	}...)
	c := newBench(t, 0, "<init>", "()V")
	c.wantRows(t, []row{
		{"spec A.<init> ()V", "this int this|this null this", "B int B|B null"}, {"spec B.<init> (I)V", "this|this int", "B|"}, {"spec A.<init> ()V", "this new0|new0 this new0", "this A|A this"},
		{"spec C.<init> ()V", "this|this", "ErrInit"}, {"spec D.<init> ()V", "this|this", "ErrInit"}, {"spec R.<init> ()V", "this|this", "ErrInit"}, {"spec Object.<init> ()V", "this|this", "ErrInit"}, {"spec A.<init> ()V", "B|B", "ErrInit"},
	}...)
	b.stack = 1
	b.wantRows(t, row{"spec A.<init> ()LA;", "|new0", "|A"})
}

func TestX2SpecOther(t *testing.T) {
	b := newBench(t, 0, "f", "()V")
	b.wantRows(t, []row{
		{"spec A.m ()V", "int|A B", "int|A"}, {"spec B.m (I)I", "|D int", "|int"}, {"spec Object.m ()LA;", "|null", "|A"}, {"spec R.m ()V", "|B", "|"}, // R is abstract
		{"spec A.m ()V", "|A", "ErrType"}, {"spec Object.m ()V", "|Object", "ErrType"}, {"spec B.m ()V", "|this", "ErrType"}, {"spec B.m ()V", "|new3", "ErrType"}, {"spec B.m ()V", "|[B", "ErrType"}, {"spec A.m ()V", "|", "ErrStack"}, {"spec A.m (I)V", "|B", "ErrType"},
		{"spec C.m ()V", "|C", "ErrKind"}, {"spec D.m ()V", "|D", "ErrKind"}, {"spec C.m ()V", "|", "ErrKind"}, {"spec Q.m ()V", "|B", "ErrKind"}, {"spec String.m ()V", "|B", "ErrKind"},
		{"spec C.m (I)V", "|", "ErrStack"}, {"spec C.m (I)V", "|C null", "ErrType"}, // the arguments ahead of the chain
		{"spec I.m ()V", "|B", "ErrKind"}, {"spec I.m (I)V", "|", "ErrKind"},
		{"spec A.m (I)I", "|A A B int", "|A A int"},
	}...)
}

func TestX2Leave(t *testing.T) {
	void, number, ref := newBench(t, 1, "f", "()V"), newBench(t, 1, "f", "()I"), newBench(t, 0, "f", "(I)LA;")
	void.wantRows(t, row{"ret", "|", "none"}, row{"ret", "top|int top", "none"}, row{"vret", "|int", "ErrType"}, row{"vret", "|", "ErrType"})
	number.wantRows(t, row{"ret", "|", "ErrType"}, row{"vret", "|A int", "none"}, row{"vret", "|", "ErrStack"}, row{"vret", "|null", "ErrType"}, row{"vret", "|top", "ErrType"})
	ref.wantRows(t, row{"ret", "|", "ErrType"}, row{"vret", "|B", "none"}, row{"vret", "|null", "none"}, row{"vret", "|", "ErrStack"}, row{"vret", "|Object", "ErrType"}, row{"vret", "|int", "ErrType"}, row{"vret", "|new0", "ErrType"})
	init := newBench(t, 0, "<init>", "(I)V")
	init.wantRows(t, []row{
		{"ret", "B int|", "none"}, {"ret", "null|int", "none"}, {"ret", "this B|", "ErrInit"}, {"ret", "top|B", "ErrInit"}, {"ret", "int|", "ErrInit"}, {"ret", "new0|", "ErrInit"}, {"ret", "|", "ErrInit"},
		{"vret", "this|", "ErrType"}, {"vret", "B|int", "ErrType"},
		{"store 0", "this A|A", "ErrLocal"}, {"store 0", "B|", "ErrLocal"}, {"store 1", "this A|int", "this int|"}, {"load 0", "this|", "this|this"}, {"throw", "this|null", "none"},
	}...)
	void.wantRows(t, []row{
		{"throw", "|A null", "none"}, {"throw", "|Throwable", "none"}, {"throw", "int|F", "none"}, {"throw", "|Deep", "none"},
		{"throw", "|", "ErrStack"}, {"throw", "|Object", "ErrType"}, {"throw", "|A", "ErrType"}, {"throw", "|int", "ErrType"}, {"throw", "|[Throwable", "ErrType"}, {"throw", "|new0", "ErrType"},
	}...)
}

func TestX2CastIs(t *testing.T) {
	b := newBench(t, 1, "f", "()V")
	for op, pushed := range map[string]string{"cast ": "", "is ": "int"} {
		for desc, short := range map[string]string{"LA;": "A", "[I": "[", "[[[[LI;": "[[[[I", "LString;": "String"} {
			want := pushed
			if want == "" {
				want = short
			}
			b.wantRows(t, row{op + desc, "A|int Object", "A|int " + want}, row{op + desc, "|null", "|" + want}, row{op + desc, "|C", "|" + want}, row{op + desc, "|int int int nowhere", "|int int int " + want},
				row{op + desc, "|", "ErrStack"}, row{op + desc, "|int", "ErrType"}, row{op + desc, "|new0", "ErrType"}, row{op + desc, "|this", "ErrType"}, row{op + desc, "|top", "ErrType"})
		}
		b.wantRows(t, []row{
			{op + "I", "|A", "ErrType"}, {op + "I", "|", "ErrType"}, {op + "Lnowhere;", "|A", "ErrClass"}, {op + "[Lnowhere;", "|", "ErrClass"},
			{op + "#0", "|A", "ErrPool"}, {op + "#2001", "|", "ErrPool"}, {op + "4:A", "|A", "ErrPool"}, {op + "1:LA;", "|A", "ErrPool"},
		}...)
	}
}

func TestX2Spawn(t *testing.T) {
	b := newBench(t, 1, "f", "()V")
	b.wantRows(t, []row{
		{"spawn A.m ()V", "A|A", "A|A int"}, {"spawn I.m (ILA;)V", "|A int B", "|A int"}, {"spawn A.m (I)V", "|A A A int", "|A A A int"}, {"spawn A.m ()V", "|A A A A", "ErrStack"},
		{"spawn A.m (ILA;)V", "|A int", "ErrType"}, {"spawn A.m (ILA;)V", "|A", "ErrStack"}, {"spawn A.m (LA;)V", "|Object", "ErrType"},
		{"spawn A.m ()I", "|", "ErrType"}, {"spawn A.m (I)LA;", "|", "ErrType"}, {"spawn A.<init> ()V", "|new0", "ErrInit"}, {"spawn A.<clinit> ()V", "|", "ErrInit"}, {"spawn A.<init> ()I", "|", "ErrInit"},
		{"spawn nowhere.m ()V", "|", "ErrClass"}, {"spawn nowhere.<init> ()I", "|", "ErrClass"}, {"spawn #0", "|", "ErrPool"}, {"spawn 5:A.x I", "|", "ErrPool"}, {"spawn 4:A", "|int", "ErrPool"},
	}...)
}

func TestX2Builtins(t *testing.T) {
	b := newBench(t, 1, "f", "()V")
	for _, c := range []struct{ op, in, out string }{
		{"prints", "String", ""}, {"weak", "A", "Weak"}, {"deref", "Weak", "Object"}, {"slen", "String", "int"}, {"schar", "String int", "int"},
		{"scat", "String String", "String"}, {"intern", "String", "String"}, {"loader", "int", "Loader"}, {"make", "Loader String", "Object"},
	} {
		in := strings.Fields(c.in)
		b.wantRows(t, row{c.op, "A|int " + c.in, "A|int " + c.out}, row{c.op, "|" + c.in, "|" + c.out}, row{c.op, "|", "ErrStack"}, row{c.op, "|" + strings.Join(in[1:], " "), "ErrStack"})
		for i := range in {
			try := func(s, want string) {
				l := append([]string{}, in...)
				l[i] = s
				b.wantRows(t, row{c.op, "|A " + strings.Join(l, " "), want})
			}
			for _, s := range strings.Fields("top this new0") {
				try(s, "ErrType")
			}
			switch {
			case in[i] == "int":
				try("null", "ErrType")
				try("A", "ErrType")
			case c.op == "weak":
				try("null", "|A "+c.out)
				try("[", "|A "+c.out)
				try("nowhere", "|A "+c.out)
				try("int", "ErrType")
			default:
				try("null", "|A "+c.out)
				try("Object", "ErrType")
				try("["+in[i], "ErrType")
				try("int", "ErrType")
			}
		}
	}
	b.wantRows(t, row{"schar", "|int", "ErrStack"}, row{"schar", "|String", "ErrType"}, row{"schar", "|int String", "ErrType"}, row{"make", "|Loader", "ErrType"}, row{"make", "|String Loader", "ErrType"}, row{"make", "|String", "ErrStack"}, row{"scat", "|A", "ErrType"})
}

func TestX2NoOp(t *testing.T) {
	m := newBench(t, 1, "f", "()V").method(t)
	for _, op := range []int{math.MinInt, -1, 64, 65, 255, 256, 256 + api.Add, 1 << 32, 1<<32 + api.Nop, math.MaxInt} {
		for _, ahead := range []string{"|", "A|int int", "|top"} {
			s, follows, e := Step(m, api.Instr{Op: op}, state(ahead))
			if got := answer(t, s, follows, e); got != "ErrArg" {
				t.Error(op, got)
			}
		}
	}
}

func TestX3Caught(t *testing.T) {
	b := newBench(t, 1, "f", "()V")
	for _, c := range []struct {
		class int // its tag, or 0: none
		name  string
		stack int
		ahead string
		want  string
	}{
		{0, "#0", 1, "int A|null int", "int A|Throwable"}, {0, "#0", 64, "|", "|Throwable"}, {4, "Throwable", 1, "top new0 this|", "top new0 this|Throwable"},
		{4, "E", 1, "A|int int int", "A|E"}, {4, "F", 2, "|new0", "|F"}, {4, "Deep", 1, "|", "|Deep"},
		{4, "A", 1, "|", "ErrType"}, {4, "Object", 1, "|", "ErrType"}, {4, "I", 1, "|", "ErrType"}, {4, "String", 0, "|", "ErrType"}, {4, "nowhere", 1, "|", "ErrClass"}, {4, "nowhere", 0, "A|A", "ErrClass"},
		{1, "Throwable", 1, "|", "ErrClass"}, {7, "LE;", 1, "|", "ErrClass"}, {0, "#-1", 1, "|", "ErrClass"}, {0, "#2001", 0, "|", "ErrClass"},
		{0, "#0", 0, "|", "ErrStack"}, {4, "E", 0, "int|", "ErrStack"}, {4, "Throwable", 0, "|", "ErrStack"},
	} {
		b.stack = c.stack
		h := api.Handler{To: 18, At: 18, Class: b.link(c.class, c.name)}
		s, e := Caught(b.method(t), h, state(c.ahead))
		want := c.want
		if strings.Contains(want, "|") {
			want = showState(state(want))
		}
		if got := answer(t, s, e == api.OK, e); got != want {
			t.Errorf("%s: %s; want %s", c.name, got, want)
		}
	}
}

// The document's examples.
func TestExamples(t *testing.T) {
	b := newBench(t, 1, "f", "()V")
	b.wantRows(t, row{"add", "|int int", "|int"}, row{"add", "|int", "ErrStack"}, row{"add", "|int null", "ErrType"}, row{"null", "|", "|null"}, row{"aget", "|null int", "none"})
}

// Which classes there are is the given table's matter.
func TestX2Tables(t *testing.T) {
	b := newBench(t, 1, "f", "()V")
	more, e, _ := b.h.Open([]api.File{file(0, "X", "B", "J")})
	if e != api.OK {
		t.Fatal(e)
	}
	b.wantRows(t, row{"new X", "|", "ErrClass"}, row{"virt B.m ()V", "|X", "ErrType"})
	b.h = more
	b.wantRows(t, row{"new X", "|", "|new0"}, row{"virt B.m ()V", "|X", "|"}, row{"iface J.m ()V", "|X", "|"}, row{"spec B.m ()V", "|X", "|"}, row{"spec X.m ()V", "|X", "ErrKind"}, row{"cast LX;", "|null", "|X"})
}
