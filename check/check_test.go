package check_test

import (
	"strings"
	"testing"

	"duologue/api"
	"duologue/check"
	"duologue/parse"
	"duologue/scope"
)

// program parses the text of a program without a fault.
func program(t *testing.T, text string) api.Program {
	t.Helper()
	p, fault := parse.Program(text)
	if fault.Err != api.OK {
		t.Fatalf("%s: %v", text, fault)
	}
	if fault := scope.Check(p); fault.Err != api.OK {
		t.Fatalf("%s: not without a fault: %v", text, fault)
	}
	return p
}

// wantBody checks the errors of a body, with and without priorities.
func wantBody(t *testing.T, text string, i int, err, loose api.Errno) {
	t.Helper()
	table := check.Prepare(program(t, text))
	if got := table.Body(i); got != err {
		t.Errorf("%s: body %d: got %d, want %d", text, i, got, err)
	}
	if got := table.Loose(i); got != loose {
		t.Errorf("%s: body %d, loose: got %d, want %d", text, i, got, loose)
	}
}

// want checks the error of a process, where names have types (p) and further definitions are given (defs).
// Without priorities, it is the same one; for ErrPriority, it is none.
func want(t *testing.T, p, process string, err api.Errno, defs ...string) {
	t.Helper()
	loose := err
	if err == api.ErrPriority {
		loose = api.OK
	}
	wantBoth(t, p, process, err, loose, defs...)
}

// wantBoth checks the error of a process with priorities, and without them.
func wantBoth(t *testing.T, p, process string, err, loose api.Errno, defs ...string) {
	t.Helper()
	def := "def X(" + p + ") = " + process + "; "
	others := strings.Join(defs, " ")
	wantBody(t, def+others+"main = stop;", 0, err, loose)
	// Other definitions, and their types, do not matter.
	before := "def V(a: rec t.?7 int.t) = new (x, y: rec u.&8 {l: u}) stop; def W() = stop; "
	wantBody(t, before+others+def+"main = new (a, b: +9 {m: end}) stop;", 2+len(defs), err, loose)
}

// joined are the texts that are not empty, with commas between.
func joined(l ...string) string {
	var parts []string
	for _, s := range l {
		if s != "" {
			parts = append(parts, s)
		}
	}
	return strings.Join(parts, ", ")
}

const (
	ok       = api.OK
	linear   = api.ErrLinear
	badType  = api.ErrType
	badLabel = api.ErrLabel
	badPrio  = api.ErrPriority
)

// live are types that begin with an action, one or more of each Kind.
var live = []string{"!int.end", "?7 bool.end", "+{a: end}", "&3 {a: end, b: end}", "rec t.!int.t+1", "rec t.rec u.&{a: t}", "!(!int.end).end"}

// dead are types that do not.
var dead = []string{"int", "bool", "end", "rec t.end", "rec t.rec u.end"}

func TestExample(t *testing.T) {
	wantBody(t, "main = new (a, b: !1 int. end) (a!<1>.stop | b?(x).stop);", 0, ok, ok)
	wantBody(t, "main = new (a, b: !1 int. end) a!<1>.b?(x).stop;", 0, badPrio, ok)
}

func TestStop(t *testing.T) {
	want(t, "", "stop", ok)
	for _, s := range dead {
		want(t, "a: "+s, "stop", ok)
		want(t, "a: "+s+", b: "+s, "stop", ok)
	}
	for _, s := range live {
		want(t, "a: "+s, "stop", linear)
		want(t, "a: end, b: int, c: "+s, "stop", linear)
		want(t, "a: "+s+", b: "+s, "stop", linear)
	}
	// What is left of a channel counts.
	want(t, "a: !int.?1 int.end", "a!<1>.stop", linear)
	want(t, "a: !int.?1 int.end", "a!<1>.a?(x).stop", ok)
	want(t, "a: +{l: end, m: !1 int.end}", "a.l.stop", ok)
	want(t, "a: +{l: end, m: !1 int.end}", "a.m.stop", linear)
	want(t, "a: rec t.!int.t+1", "a!<1>.a!<2>.a!<3>.stop", linear)
}

// prefixes are ways to use a, each of which has the type with the same index.
var (
	prefixes = []string{"a!<1>.stop", "a?(x).stop", "a.l.stop", "a&{l: stop}"}
	fitting  = []string{"!5 int.end", "?5 int.end", "+5 {l: end}", "&5 {l: end}"}
)

func TestKindOfAChannel(t *testing.T) {
	for i, p := range prefixes {
		for j, s := range fitting {
			err := badType
			if i == j {
				err = ok
			}
			want(t, "a: "+s, p, err)
			want(t, "a: rec t."+s, p, err)
			want(t, "b: !5 int.end, a: ?4 int."+s, "a?(y).("+p+" | b!<3>.stop)", err)
		}
		for _, s := range dead {
			want(t, "a: "+s, p, badType)
		}
	}
}

func TestChannelThatIsNotInTheContext(t *testing.T) {
	for i, p := range prefixes {
		want(t, "b: !("+fitting[i]+").end, a: "+fitting[i], "b!<a>."+p, linear)
		// Also where it would have a wrong type, or the next node an error.
		for j := range fitting {
			want(t, "b: !("+fitting[j]+").end, a: "+fitting[j], "b!<a>."+p, linear)
		}
		next := strings.NewReplacer("stop", "c?(y).stop").Replace(p)
		want(t, "b: !("+fitting[i]+").end, a: "+fitting[i]+", c: end", "b!<a>."+next, linear)
		want(t, "b: !("+fitting[i]+").end, c: !1 int.end, a: "+fitting[i], "b!<a>."+p, linear)
	}
}

func TestValueOfASend(t *testing.T) {
	for _, x := range []struct {
		payload, p, v string
		err           api.Errno
	}{
		{"int", "", "1", ok}, {"int", "", "-9223372036854775808", ok}, {"int", "", "0", ok},
		{"int", "", "true", badType}, {"int", "", "false", badType}, {"int", "v: int", "v", ok}, {"int", "v: bool", "v", badType},
		{"int", "v: end", "v", badType}, {"int", "v: !7 int.end", "v", badType}, {"int", "", "c", badType},
		{"bool", "", "true", ok}, {"bool", "", "false", ok}, {"bool", "", "1", badType}, {"bool", "", "0", badType},
		{"bool", "v: bool", "v", ok}, {"bool", "v: int", "v", badType}, {"bool", "v: end", "v", badType},
		{"bool", "v: +7 {l: end}", "v", badType}, {"bool", "", "c", badType},
		{"end", "v: end", "v", ok}, {"end", "v: rec t.end", "v", ok}, {"(rec t.end)", "v: end", "v", ok}, {"end", "", "0", badType},
		{"end", "", "true", badType}, {"end", "v: int", "v", badType}, {"end", "v: bool", "v", badType},
		{"end", "v: ?7 int.end", "v", badType}, {"end", "", "c", badType},
		{"(!7 int.end)", "v: !7 int.end", "v", ok}, {"(!7 int.end)", "v: rec t.!7 int.end", "v", ok},
		{"(!7 int.end)", "", "7", badType}, {"(!7 int.end)", "", "false", badType}, {"(!7 int.end)", "v: int", "v", badType},
		{"(!7 int.end)", "v: end", "v", badType}, {"(!7 int.end)", "v: !8 int.end", "v", badType},
		{"(!7 int.end)", "v: !6 int.end", "v", badType}, {"(!7 int.end)", "v: ?7 int.end", "v", badType},
		{"(!7 int.end)", "v: !7 bool.end", "v", badType}, {"(!7 int.end)", "v: !7 int.!8 int.end", "v", badType},
		{"(!7 int.end)", "", "c", badType}, {"(?7 int.end)", "v: ?7 int.end", "v", ok}, {"(?7 int.end)", "v: !7 int.end", "v", badType},
		{"(+7 {l: end})", "v: +7 {l: end, m: end}", "v", ok}, {"(+7 {l: end})", "v: +7 {m: end, l: end}", "v", ok},
		{"(+7 {l: end, m: end})", "v: +7 {l: end}", "v", badType}, {"(+7 {l: end})", "v: +7 {m: end}", "v", badType},
		{"(&7 {l: end, m: end})", "v: &7 {l: end}", "v", ok}, {"(&7 {l: end})", "v: &7 {l: end, m: end}", "v", badType},
		{"(!7 (+8 {l: end, m: end}).end)", "v: !7 (+8 {l: end}).end", "v", ok},
		{"(!7 (+8 {l: end}).end)", "v: !7 (+8 {l: end, m: end}).end", "v", badType},
		{"(rec t.!7 int.t+1)", "v: !7 int.rec t.!8 int.t+1", "v", ok}, {"(rec t.!7 int.t+1)", "v: rec t.!7 int.!8 int.t+2", "v", ok},
		{"(rec t.!7 int.t+1)", "v: rec t.!7 int.t+2", "v", badType},
	} {
		want(t, joined("c: !5 "+x.payload+".end", x.p), "c!<"+x.v+">.stop", x.err)
		want(t, joined(x.p, "c: rec t.!5 "+x.payload+".end", "d: end"), "c!<"+x.v+">.stop", x.err)
	}
}

// The channel itself fits no payload, even if its type is a subtype of it.
func TestChannelSentOverItself(t *testing.T) {
	for _, s := range []string{"rec t.!t.end", "rec t.!t.t", "rec t.!1 t.t+1", "!(rec t.!t.end).end", "rec t.!(+{l: t}).end"} {
		want(t, "c: "+s, "c!<c>.stop", badType)
	}
	want(t, "c: rec t.!t.end, d: rec t.!t.end", "c!<d>.stop", badPrio)
	wantBoth(t, "c: rec t.!t.t, d: rec t.!t.t", "c!<d>.stop", badPrio, linear)
	want(t, "c: !1 (!2 int.end).!3 int.end, d: !2 int.end", "c!<d>.c!<1>.stop", ok)
}

func TestValueThatIsNotInTheContext(t *testing.T) {
	for _, payload := range []string{"int", "bool", "end", "(!9 int.end)", "(?9 int.end)"} {
		p := "a: !(!9 int.end).end, v: !9 int.end, b: !1 " + payload + ".end"
		want(t, p, "a!<v>.b!<v>.stop", linear)
		// Also before the priority of another name, and an error of the next node.
		want(t, p+", c: !1 int.end", "a!<v>.b!<v>.c!<true>.stop", linear)
	}
}

func TestLabelOfASelect(t *testing.T) {
	for _, x := range []struct {
		labels, label string
		err           api.Errno
	}{
		{"l: end", "l", ok}, {"l: end", "m", badLabel}, {"l: end", "L", badLabel}, {"l: end", "ll", badLabel}, {"ll: end", "l", badLabel},
		{"m: end, l: end", "l", ok}, {"m: end, l: end", "m", ok}, {"m: end, l: end", "k", badLabel}, {"b: end, c: end, a: end", "a", ok},
		{"x: !9 int.end, y: end", "y", ok}, {"x: !9 int.end, y: end", "x", linear}, {"y: end, x: !9 int.end", "x", linear},
		{"t: end", "a", badLabel},
	} {
		want(t, "a: +5 {"+x.labels+"}", "a."+x.label+".stop", x.err)
		want(t, "a: !4 int.rec t.+5 {"+x.labels+"}", "a!<1>.a."+x.label+".stop", x.err)
	}
	want(t, "a: +5 {l: !6 int.end, m: ?7 int.end}", "a.l.a!<1>.stop", ok)
	want(t, "a: +5 {l: !6 int.end, m: ?7 int.end}", "a.m.a?(x).stop", ok)
	want(t, "a: +5 {l: !6 int.end, m: ?7 int.end}", "a.m.a!<1>.stop", badType)
}

func TestLabelsOfABranch(t *testing.T) {
	for _, x := range []struct {
		labels, kids string
		err          api.Errno
	}{
		{"l: end", "l: stop", ok}, {"l: end", "m: stop", badLabel}, {"l: end", "l: stop, m: stop", badLabel},
		{"l: end, m: end", "l: stop", badLabel}, {"l: end, m: end", "m: stop", badLabel}, {"l: end, m: end", "l: stop, m: stop", ok},
		{"l: end, m: end", "m: stop, l: stop", ok}, {"l: end, m: end", "m: stop, k: stop", badLabel}, {"l: end, m: end", "k: stop, l: stop", badLabel},
		{"b: end, c: end, a: end", "c: stop, a: stop, b: stop", ok}, {"b: end, c: end, a: end", "c: stop, d: stop, b: stop", badLabel},
		{"b: end, c: end, a: end", "a: stop, b: stop, c: stop, d: stop", badLabel}, {"b: end, c: end, a: end", "a: stop, b: stop", badLabel},
		{"a10: end, a9: end", "a9: stop, a10: stop", ok}, {"ab: end, c: end", "a: stop, bc: stop", badLabel},
		{"x: !9 int.end, y: ?8 int.end", "x: a!<1>.stop, y: a?(z).stop", ok}, {"x: !9 int.end, y: ?8 int.end", "y: a?(z).stop, x: a!<1>.stop", ok},
		{"x: !9 int.end, y: ?8 int.end", "x: a?(z).stop, y: a!<1>.stop", badType}, {"x: !9 int.end, y: ?8 int.end", "y: a!<1>.stop, x: a?(z).stop", badType},
		{"x: !9 int.end, y: end", "x: a!<1>.stop, y: a!<1>.stop", badType}, {"x: !9 int.end, y: end", "x: stop, y: stop", linear},
		{"x: end, y: !9 int.end", "x: stop, y: stop", linear},
	} {
		want(t, "a: &5 {"+x.labels+"}", "a&{"+x.kids+"}", x.err)
		want(t, "a: !4 int.rec t.&5 {"+x.labels+"}", "a!<1>.a&{"+x.kids+"}", x.err)
	}
	// All Kids use the same other names.
	want(t, "a: &5 {l: end, m: end}, b: !6 int.end", "a&{l: b!<1>.stop, m: b!<2>.stop}", ok)
	want(t, "a: &5 {l: end, m: end}, b: !6 int.end", "a&{l: b!<1>.stop, m: stop}", linear)
	want(t, "a: &5 {l: end, m: end}, b: !6 int.end", "a&{l: stop, m: b!<1>.stop}", linear)
	want(t, "a: &5 {l: end, m: !6 int.end}, b: !7 (!9 int.end).end, c: !9 int.end", "a&{l: b!<c>.stop, m: a!<1>.b!<c>.stop}", ok)
}

// second are ways to use b, each of which has the type with the same index, at a priority.
func second(prio string) map[string]string {
	return map[string]string{"!" + prio + " int.end": "b!<1>.stop", "?" + prio + " bool.end": "b?(y).stop", "+" + prio + " {m: end}": "b.m.stop",
		"&" + prio + " {m: end}": "b&{m: stop}", "rec t.!" + prio + " int.end": "b!<2>.stop"}
}

func TestPriority(t *testing.T) {
	for i, p := range prefixes {
		for prio, err := range map[string]api.Errno{"0": badPrio, "4": badPrio, "5": badPrio, "6": ok, "999999": ok} {
			for s, use := range second(prio) {
				both := strings.Replace(p, "stop", use, 1)
				want(t, "a: "+fitting[i]+", b: "+s, both, err)
				want(t, "b: "+s+", a: "+fitting[i], both, err)
				want(t, "e: end, b: "+s+", n: int, a: "+fitting[i]+", c: !1000000 end.!9 int.end", strings.Replace(both, "stop", "c!<e>.c!<n>.stop", 1), err)
				// No error of the next node comes first, and none of those that follow.
				wantBoth(t, "a: "+fitting[i]+", b: "+s, p, map[api.Errno]api.Errno{badPrio: badPrio, ok: linear}[err], linear)
			}
		}
		// Names that are not live have no priority.
		want(t, "a: "+fitting[i]+", b: end, c: int, d: bool, e: rec t.end", p, ok)
		want(t, "b: !0 int.end, a: ?1 int."+fitting[i], "b!<1>.a?(y)."+p, ok)
	}
}

// A name that is sent has to come later, too.
func TestPriorityOfAValue(t *testing.T) {
	for prio, err := range map[string]api.Errno{"0": badPrio, "4": badPrio, "5": badPrio, "6": ok} {
		for s := range second(prio) {
			want(t, "a: !5 ("+s+").end, b: "+s, "a!<b>.stop", err)
			want(t, "b: "+s+", a: !5 ("+s+").!9 int.end", "a!<b>.a!<3>.stop", err)
		}
	}
	for _, s := range []string{"int", "bool", "end"} {
		want(t, "a: !5 "+s+".end, b: "+s, "a!<b>.stop", ok)
	}
}

// The priorities of what is left of a channel are compared, and those of types that are raised.
func TestPriorityAfterActions(t *testing.T) {
	for _, x := range []struct {
		a, b, process string
		err           api.Errno
	}{
		{"!1 int.!3 int.end", "!2 int.!4 int.end", "a!<1>.b!<1>.a!<2>.b!<2>.stop", ok},
		{"!1 int.!3 int.end", "!2 int.!4 int.end", "a!<1>.a!<2>.b!<1>.b!<2>.stop", badPrio},
		{"!1 int.!3 int.end", "!2 int.!4 int.end", "a!<1>.b!<1>.b!<2>.a!<2>.stop", badPrio},
		{"!3 int.!1 int.end", "!4 int.!2 int.end", "a!<1>.a!<2>.b!<1>.b!<2>.stop", ok},
		{"!1 int.!3 int.end", "!4 int.!2 int.end", "a!<1>.a!<2>.b!<1>.b!<2>.stop", ok},
		{"!1 int.!3 int.end", "!2 int.!2 int.end", "a!<1>.b!<1>.b!<2>.a!<2>.stop", ok},
		{"rec t.+{m: t+2, e: end}", "rec t.+1 {m: t+2, e: end}", "a.m.b.m.a.m.b.m.a.e.b.e.stop", ok},
		{"rec t.+{m: t+2, e: end}", "rec t.+1 {m: t+2, e: end}", "a.m.b.m.a.m.a.e.b.e.stop", badPrio},
		{"rec t.+{m: t+2, e: end}", "rec t.+1 {m: t+1, e: end}", "a.m.b.m.a.m.b.e.a.e.stop", badPrio},
		{"rec t.+{m: t+2, e: end}", "rec t.+1 {m: t+4, e: end}", "a.m.b.m.a.m.a.e.b.e.stop", ok},
	} {
		want(t, "a: "+x.a+", b: "+x.b, x.process, x.err)
		want(t, "b: "+x.b+", a: "+x.a, x.process, x.err)
	}
}

// The payloads of recursive types are raised with them.
func TestRaisedPayloads(t *testing.T) {
	for u, err := range map[string]api.Errno{"!7 int.end": ok, "!2 int.end": badPrio, "!8 int.end": badType, "!6 int.end": badType, "!5 int.end": badPrio} {
		loose := err
		if err == badPrio {
			loose = badType
		}
		wantBoth(t, "c: rec t.+{more: !1 (!2 int.end).t+5, done: end}, s: !2 int.end, u: "+u, "c.more.c!<s>.c.more.c!<u>.c.done.stop", err, loose)
	}
	for b, err := range map[string]api.Errno{"!5 int.end": badPrio, "!6 int.end": badPrio, "!7 int.end": ok} {
		want(t, "c: rec t.+{more: ?1 (!2 int.end).t+4, done: end}, b: "+b, "c.more.c?(x).x!<1>.c.more.c?(y).y!<2>.b!<3>.c.done.stop", err)
	}
}

// What is received is not in the context yet when priorities are compared.
func TestPriorityOfAVariable(t *testing.T) {
	for _, payload := range []string{"!5 int.end", "!4 int.end", "!int.end", "!6 int.end"} {
		want(t, "a: ?5 ("+payload+").end", "a?(x).x!<1>.stop", ok)
	}
	want(t, "a: ?5 (!4 int.end).?3 int.end", "a?(x).a?(y).x!<1>.stop", ok)
	want(t, "a: ?5 (!4 int.end).?4 int.end", "a?(x).a?(y).x!<1>.stop", badPrio)
}

func TestContextAfterASend(t *testing.T) {
	s := "!9 int.end"
	// A live name that is sent cannot be used any more, and need not.
	want(t, "a: !1 ("+s+").end, b: "+s, "a!<b>.stop", ok)
	want(t, "a: !1 ("+s+").end, b: "+s, "a!<b>.b!<1>.stop", linear)
	want(t, "a: !1 ("+s+").!2 ("+s+").end, b: "+s, "a!<b>.a!<b>.stop", linear)
	want(t, "a: !1 ("+s+").end, b: "+s+", c: "+s, "a!<b>.c!<1>.stop", ok)
	want(t, "a: !1 ("+s+").end, b: "+s+", c: "+s, "a!<b>.stop", linear)
	want(t, "a: !1 ("+s+").end, b: "+s+", c: "+s, "a!<c>.b!<1>.stop", ok)
	want(t, "a: !1 ("+s+").end, b: "+s, "a!<b>.new (c, d: end) stop", ok)
	// Other names that are sent can.
	for v, payload := range map[string]string{"n": "int", "m": "bool", "e": "end"} {
		p := "n: int, m: bool, e: end, a: !1 " + payload + ".!2 " + payload + ".end, b: !3 " + payload + ".end"
		want(t, p, "a!<"+v+">.a!<"+v+">.b!<"+v+">.stop", ok)
	}
	want(t, "a: !1 int.end, b: "+s, "a!<1>.b!<1>.stop", ok)
	want(t, "a: !1 int.end, b: "+s, "a!<1>.stop", linear)
}

func TestVariableOfAReceive(t *testing.T) {
	for _, x := range []struct {
		payload, process string
		err              api.Errno
	}{
		{"int", "stop", ok}, {"bool", "stop", ok}, {"end", "stop", ok}, {"(!9 int.end)", "stop", linear},
		{"int", "i!<x>.stop", ok}, {"bool", "i!<x>.stop", badType}, {"end", "i!<x>.stop", badType},
		{"(!9 int.end)", "i!<x>.x!<1>.stop", badType}, {"(!9 int.end)", "i!<7>.x!<1>.stop", ok}, {"(!9 int.end)", "i!<7>.x!<true>.stop", badType},
		{"(?9 int.end)", "i!<7>.x!<1>.stop", badType}, {"(?9 int.end)", "i!<7>.x?(y).stop", ok}, {"(?9 int.end)", "x?(y).i!<7>.stop", badPrio},
		{"(?9 int.end)", "x?(y).i!<y>.stop", badPrio}, {"(?7 int.end)", "x?(y).i!<y>.stop", ok}, {"(?7 bool.end)", "x?(y).i!<y>.stop", badType},
		{"(+9 {l: end, m: end})", "i!<7>.x.m.stop", ok}, {"(&9 {l: end, m: end})", "i!<7>.x&{m: stop, l: stop}", ok},
	} {
		i := ", i: !8 int.end"
		if x.process == "stop" {
			i = ""
		}
		want(t, "a: ?5 "+x.payload+".end"+i, "a?(x)."+x.process, x.err)
		want(t, "a: rec t.?5 "+x.payload+".end"+i, "a?(x)."+x.process, x.err)
	}
	// The payload of what is left of a recursive type is raised.
	p := "a: rec t.&{more: ?1 (!2 int.end).t+3, done: end}"
	want(t, p, "a&{more: a?(x).x!<1>.a&{more: a?(y).y!<2>.a&{done: stop, more: Y<a>}, done: stop}, done: stop}", badType, "def Y(a: end) = stop;")
	want(t, p, "a&{more: a?(x).x!<1>.a&{more: a?(y).y!<2>.a&{done: stop, more: Y<a>}, done: stop}, done: stop}", ok, "def Y(a: ?1 (!2 int.end).rec t.&3{more: ?4 (!5 int.end).t+3, done: end}) = a?(x).x!<1>.Z<a>;", "def Z(a: rec t.&{more: ?1 (!2 int.end).t+3, done: end}) = a&{more: Y<a>, done: stop};")
	wantBoth(t, p, "a&{more: a?(x).a&{more: stop, done: stop}, done: stop}", badPrio, linear)
}
