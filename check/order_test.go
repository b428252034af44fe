package check_test

import (
	"fmt"
	"strings"
	"testing"

	"duologue/api"
	"duologue/check"
)

// Tests of the order of conditions and of nodes, and of the bodies of a program.

// Each condition of a prefix comes before every later one, and before those of the next nodes.
func TestOrderOfConditionsOfAPrefix(t *testing.T) {
	// The name g is sent away by z in front; d comes before c, and is left if nothing else is wrong.
	for _, x := range []struct {
		c, prefix   string
		err, strict api.Errno // of the prefix, without d, and with it
	}{
		{"?5 int.end", "c!<1>.stop", badType, badType},
		{"?5 int.end", "c!<g>.stop", badType, badType},
		{"+5 {l: end}", "c!<true>.stop", badType, badType},
		{"!5 int.end", "c!<g>.stop", linear, linear},
		{"!5 bool.end", "c!<g>.stop", linear, linear},
		{"!5 end.end", "c!<g>.stop", linear, linear},
		{"!5 (!9 int.end).end", "c!<g>.stop", linear, linear},
		{"!5 (?9 int.end).end", "c!<g>.stop", linear, linear},
		{"!5 int.end", "c!<true>.stop", badType, badType},
		{"!5 bool.end", "c!<1>.stop", badType, badType},
		{"!5 bool.end", "c!<c>.stop", badType, badType},
		{"!5 end.end", "c!<1>.stop", badType, badType},
		{"!5 (!9 int.end).end", "c!<1>.stop", badType, badType},
		{"rec t.!5 t.end", "c!<c>.stop", badType, badType},
		{"!5 int.end", "c!<1>.stop", ok, badPrio},
		{"!5 int.!6 int.end", "c!<1>.c!<true>.stop", badType, badPrio},
		{"!5 int.!6 int.end", "c!<1>.stop", linear, badPrio},
		{"!5 int.end", "c?(x).stop", badType, badType},
		{"?5 int.end", "c?(x).stop", ok, badPrio},
		{"?5 int.?6 int.end", "c?(x).c!<1>.stop", badType, badPrio},
		{"?5 int.+6 {l: end}", "c?(x).c.m.stop", badLabel, badPrio},
		{"!5 int.end", "c.l.stop", badType, badType},
		{"&5 {m: end}", "c.l.stop", badType, badType},
		{"+5 {m: end}", "c.l.stop", badLabel, badLabel},
		{"+5 {m: end}", "c.m.stop", ok, badPrio},
		{"+5 {m: ?6 int.end}", "c.m.stop", linear, badPrio},
		{"+5 {m: ?6 int.end}", "c.m.c!<1>.stop", badType, badPrio},
		{"!5 int.end", "c&{l: stop}", badType, badType},
		{"+5 {m: end}", "c&{l: stop}", badType, badType},
		{"&5 {m: end}", "c&{l: stop}", badLabel, badLabel},
		{"&5 {m: end, l: end}", "c&{l: stop}", badLabel, badLabel},
		{"&5 {m: !6 int.end}", "c&{l: c!<true>.stop}", badLabel, badLabel},
		{"&5 {m: end}", "c&{m: stop}", ok, badPrio},
		{"&5 {m: end}", "c&{m: c!<1>.stop}", badType, badPrio},
	} {
		p := "z: !(!9 int.end).end, g: !9 int.end, c: " + x.c
		want(t, p, "z!<g>."+x.prefix, x.err)
		for _, d := range []string{"!2 int.end", "?5 bool.end"} {
			loose := x.err
			if loose == ok {
				loose = linear
			}
			wantBoth(t, "d: "+d+", "+p, "z!<g>."+x.prefix, x.strict, loose)
			wantBoth(t, p+", d: "+d, "z!<g>."+x.prefix, x.strict, loose)
		}
	}
}

// A channel that was sent away has no type any more, so that it comes before all other conditions.
func TestChannelThatIsNotInTheContextComesFirst(t *testing.T) {
	for _, prefix := range []string{"g!<1>.stop", "g!<g>.stop", "g!<true>.d!<true>.stop", "g?(x).d.l.stop", "g.l.d!<true>.stop", "g&{l: d!<true>.stop}"} {
		for _, s := range []string{"!9 int.end", "?9 int.end", "+9 {m: end}", "&9 {l: end}"} {
			want(t, "z: !("+s+").end, g: "+s+", d: !1 int.end", "z!<g>."+prefix, linear)
		}
	}
}

// Each condition of an argument comes before every later one, and before those of the next arguments.
func TestOrderOfConditionsOfACall(t *testing.T) {
	for _, x := range []struct {
		params, args string
		err          api.Errno
	}{
		{"a: int", "g", linear}, {"a: bool", "g", linear}, {"a: end", "g", linear}, {"a: !9 int.end", "g", linear}, {"a: ?9 int.end", "g", linear},
		{"a: int, b: int", "g, true", linear}, {"a: int, b: int", "true, g", badType}, {"a: end, b: end", "1, g", badType}, {"a: end, b: end", "z, g", linear},
		{"a: !9 int.end, b: int", "g, true", linear}, {"a: !9 int.end, b: int", "v, true", badType}, {"a: !9 int.end, b: int", "v, g", linear},
		{"a: !9 int.end, b: !9 int.end", "z, g", badType}, {"a: !9 int.end, b: !9 int.end", "g, z", linear}, {"a: !9 int.end, b: !9 int.end", "v, g", linear},
		{"a: !9 int.end, b: !9 int.end", "v, 1", badType}, {"a: !9 int.end, b: !9 int.end", "g, g", linear}, {"a: !9 int.end, b: !9 int.end", "1, 1", badType},
		{"a: !9 int.end, b: !9 int.end", "v, v", linear}, {"a: !9 int.end, b: ?9 int.end", "v, v", linear}, {"a: !9 int.end, b: !8 int.end", "v, v", linear},
		{"a: ?9 int.end, b: !9 int.end", "v, v", badType}, {"a: ?9 int.end, b: !9 int.end", "v, g", badType}, {"a: !9 bool.end, b: int", "v, g", badType},
		{"a: int, b: !9 int.end", "v, v", badType}, {"a: !9 int.end, b: int", "v, v", badType}, {"a: end, b: !9 int.end", "z, z", badType}, {"a: !9 int.end, b: end", "v, v", badType},
		{"a: !9 int.end, b: !9 int.end, c: int", "v, v, true", linear}, {"a: !9 int.end, b: int, c: !9 int.end", "v, true, v", badType}, {"a: !9 int.end, b: int, c: !9 int.end", "v, 1, v", linear},
		{"a: !9 int.end, b: !8 int.end, c: int", "v, w, g", badType}, {"a: !9 int.end, b: !9 int.end, c: int", "v, w, g", linear}, {"a: !9 int.end, b: !9 int.end, c: !9 int.end", "v, w, v", linear},
		{"a: !9 int.end, b: !9 int.end", "w, v", ok}, {"a: !9 int.end, b: !9 int.end, c: int", "w, v, -1", ok},
		// Live names that are no argument come last.
		{"", "", linear}, {"a: int", "1", linear}, {"a: int", "true", badType}, {"a: int", "v", badType}, {"a: ?9 int.end", "v", badType}, {"a: !9 int.end", "v", linear}, {"a: !9 int.end", "z", badType},
	} {
		p := "z: !(!9 int.end).end, g: !9 int.end, v: !9 int.end, w: !9 int.end"
		want(t, p, "z!<g>.Y<"+x.args+">", x.err, "def Y("+x.params+") = stop;")
	}
}

// fragment is a process over its own names of each kind (with a number in the place of #), and the first error in it.
type fragment struct {
	process    string
	err, loose api.Errno
}

const fragmentNames = "t#: !20 int.end, l#: +21 {a: end}, q#: !22 int.end"

var fragments = []fragment{
	{"t#!<1>.l#.a.q#!<1>.stop", ok, ok},
	{"t#!<true>.l#.a.q#!<1>.stop", badType, badType},
	{"t#!<1>.l#.b.q#!<1>.stop", badLabel, badLabel},
	{"t#!<1>.l#.a.q#!<1>.new (x#, y#: !int.end) stop", linear, linear},
	{"q#!<1>.t#!<1>.l#.a.stop", badPrio, ok},
	{"q#!<1>.t#!<1>.l#.b.stop", badPrio, badLabel},
	{"t#!<1>.l#.b.q#!<true>.stop", badLabel, badLabel},
	{"l#.a.t#!<true>.q#!<true>.stop", badPrio, badType},
	{"t#!<1>.l#.a.q#!<true>.Y<>", badType, badType},
	{"t#!<1>.(l#.a.q#!<1>.stop | new (x#, y#: !int.end) x#!<1>.stop)", badPrio, linear},
}

// numbered is a text with a number in the place of each #.
func numbered(s string, i int) string {
	return strings.ReplaceAll(s, "#", fmt.Sprint(i))
}

// first is the first error.
func first(l ...api.Errno) api.Errno {
	for _, err := range l {
		if err != ok {
			return err
		}
	}
	return ok
}

func TestOrderOfNodes(t *testing.T) {
	y := "def Y() = stop;"
	names := numbered(fragmentNames, 0)
	for _, a := range fragments {
		for _, b := range fragments {
			err, loose := first(a.err, b.err), first(a.loose, b.loose)
			wantBoth(t, "c: &1 {l: end, m: end}, "+names, "c&{l: "+numbered(a.process, 0)+", m: "+numbered(b.process, 0)+"}", err, loose, y)
			wantBoth(t, "c: &1 {l: end, m: end}, "+names, "c&{m: "+numbered(a.process, 0)+", l: "+numbered(b.process, 0)+"}", err, loose, y)
			both := names + ", " + numbered(fragmentNames, 1)
			wantBoth(t, both, numbered(a.process, 0)+" | "+numbered(b.process, 1), err, loose, y)
			wantBoth(t, both, numbered(a.process, 1)+" | stop | "+numbered(b.process, 0), err, loose, y)
			// A PPar is before its Kids: here, a live name is in none of them.
			want(t, both+", e: !23 int.end", numbered(a.process, 0)+" | "+numbered(b.process, 1), linear, y)
			want(t, names, numbered(a.process, 0)+" | "+numbered(b.process, 0), linear, y)
		}
		// Other nodes are before their Kid.
		for prefix, p := range map[string]string{"c!<1>.": "!1 int.end", "c?(x).": "?1 int.end", "c.l.": "+1 {l: end}", "new (d, e: end) ": "end"} {
			wantBoth(t, "c: "+p+", "+names, prefix+numbered(a.process, 0), a.err, a.loose, y)
			wantBoth(t, names+", c: "+p, prefix+numbered(a.process, 0), a.err, a.loose, y)
		}
		for prefix, err := range map[string]api.Errno{"c!<true>.": badType, "c?(x).": badType, "c.l.": badType, "d.l.": badLabel, "c!<d>.": badType} {
			want(t, "c: !1 int.end, d: +2 {m: end}, "+names, prefix+numbered(a.process, 0), err, y)
		}
	}
}

// Each body has its own error, whatever those of the others are.
func TestAllBodies(t *testing.T) {
	y := "def Y() = stop;"
	text := y
	for i, a := range fragments {
		text += fmt.Sprintf("def X%d(%s) = new (c, d: end) (%s);", i, numbered(fragmentNames, i), numbered(a.process, i))
	}
	for _, m := range []fragment{{"stop", ok, ok}, {"new (a, b: !int.end) stop", linear, linear}, {"new (a, b: !1 int. end) a!<1>.b?(x).stop", badPrio, ok}, {"new (a, b: !int.end) (a!<true>.stop | b?(x).stop)", badType, badType}} {
		p := program(t, text+"main = "+m.process+";")
		table := check.Prepare(p)
		want := append([]fragment{{"", ok, ok}}, fragments...)
		want = append(want, m)
		// The order of the calls does not matter.
		for _, i := range []int{11, 3, 0, 1, 2, 3, 4, 5, 6, 7, 8, 9, 10, 11, 5} {
			if got := table.Body(i); got != want[i].err {
				t.Errorf("body %d: got %d, want %d", i, got, want[i].err)
			}
			if got := table.Loose(i); got != want[i].loose {
				t.Errorf("body %d, loose: got %d, want %d", i, got, want[i].loose)
			}
		}
		wantNoBody(t, table, -1, -2, 12, 13, 1000000, -1<<63, 1<<63-1)
	}
}

// wantNoBody checks that there are no bodies with some indices.
func wantNoBody(t *testing.T, table *check.Table, l ...int) {
	t.Helper()
	for _, i := range l {
		if err, loose := table.Body(i), table.Loose(i); err != api.ErrArg || loose != api.ErrArg {
			t.Errorf("body %d: got %d and %d", i, err, loose)
		}
	}
}

func TestNoBody(t *testing.T) {
	wantNoBody(t, nil, 0, 1, -1, 5)
	table := check.Prepare(program(t, "main = stop;"))
	wantNoBody(t, table, 1, -1, 2)
	if table.Body(0) != ok || table.Loose(0) != ok {
		t.Error("main has an error")
	}
	wantNoBody(t, check.Prepare(program(t, "def X() = stop; main = new (a, b: !int.end) stop;")), 2, -1, 3)
}

const callers = "def X(a: rec t.!int.t+1) = a!<1>.X<a>; def Y(a: rec t.?int.t+1) = a?(x).Y<a>; def Z(n: int, d: rec t.!5 int.t+1) = d!<n>.X<d>; main = MAIN;"

// Calls of definitions behind and in front, of the same one, and with types that other ones use with other shifts.
func TestCallsOfDefinitions(t *testing.T) {
	text := `
def X(a: rec t.!int.t+1) = a!<1>.X<a>;
def Y(a: rec t.?int.t+1) = a?(x).Y<a>;
def B(c: ?int.end, d: rec t.!1 int.t+1) = c?(x).Z<x, d>;
def C(c: !int.end, d: rec t.!1 int.!2 int.t+3) = c!<7>.d!<8>.Z<9, d>;
def Z(n: int, d: rec t.!5 int.t+1) = d!<n>.X<d>;
def D(c: !int.end, d: rec t.!1 int.t+2) = c!<7>.Z<9, d>;
main = new (a, b: rec t.!0 int.t+1) (a!<3>.X<a> | b?(x).Y<b>);`
	for i, err := range []api.Errno{ok, ok, ok, badType, ok, badType, ok} {
		wantBody(t, text, i, err, err)
	}
	for process, err := range map[string]api.Errno{
		"new (a, b: rec t.!7 int.t+1) (X<a> | Y<b>)":                                               ok,
		"new (a, b: rec t.?7 int.t+1) (X<a> | Y<b>)":                                               badType,
		"new (a, b: rec t.?7 int.t+1) (X<b> | Y<a>)":                                               ok,
		"new (a, b: rec t.!7 int.t+2) (X<a> | Y<b>)":                                               badType,
		"new (a, b: !7 int.rec t.!8 int.t+1) (X<a> | Y<b>)":                                        ok,
		"new (a, b: !7 int.rec t.!8 int.t+1) (Z<1, a> | Y<b>)":                                     ok,
		"new (a, b: rec t.!7 int.t+1) new (c, d: rec t.!3 int.t+1) (X<a> | Y<d> | Z<2, c> | Y<b>)": ok,
		"new (a, b: rec t.!7 int.t+1) new (c, d: rec t.!3 int.t+1) (X<a> | Y<d> | Z<2, d> | Y<b>)": linear,
		"new (a, b: rec t.!7 int.t+1) new (c, d: rec t.!3 int.t+1) (X<a> | Y<c> | Z<2, d> | Y<b>)": badType,
	} {
		wantBody(t, strings.Replace(callers, "MAIN", process, 1), 3, err, err)
	}
}
