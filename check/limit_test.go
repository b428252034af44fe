package check_test

import (
	"fmt"
	"slices"
	"strings"
	"testing"

	"duologue/api"
	"duologue/check"
	"duologue/proctree"
	"duologue/scope"
)

// P1 for programs that are as large as the limits permit, and errors at their last nodes.

// list makes a text of numbered parts.
func list(n int, part, separator string) string {
	l := make([]string, n)
	for i := range l {
		l[i] = numbered(part, i)
	}
	return strings.Join(l, separator)
}

// wantLarge checks the errors of a body of a program of some size.
func wantLarge(t *testing.T, p api.Program, size, i int, err, loose api.Errno) {
	t.Helper()
	if fault := scope.Check(p); fault.Err != ok {
		t.Fatalf("not without a fault: %v", fault)
	}
	if got := proctree.Total(p); got < size {
		t.Errorf("size %d", got)
	}
	table := check.Prepare(p)
	if got, gotLoose := table.Body(i), table.Loose(i); got != err || gotLoose != loose {
		t.Errorf("got %d and %d, want %d and %d", got, gotLoose, err, loose)
	}
}

func TestDeepProcesses(t *testing.T) {
	long := strings.Repeat("!7 int.", 98) + "&8 {l: end}"
	for last, err := range map[string]api.Errno{"&{l: stop}": ok, "&{m: stop}": badLabel, "?(x).stop": badType} {
		p := program(t, "def X(a: "+long+") = "+strings.Repeat("a!<1>.", 98)+"a"+last+"; main = stop;")
		wantLarge(t, p, 299, 0, err, err)
	}
	p := program(t, "def X(a: "+long+") = "+strings.Repeat("a!<1>.", 98)+"stop; main = stop;")
	wantLarge(t, p, 298, 0, linear, linear)
	// Each level binds two names more.
	news := list(97, "new (a#, b#: !# int.end) ", "")
	for last, err := range map[string]api.Errno{"a96!<1>.stop | b96?(x).stop": ok, "a96!<1>.stop | b96!<2>.stop": badType, "a96!<1>.stop": linear, "stop | b96?(x).stop": linear} {
		p := program(t, "main = "+news+"("+list(96, "a#!<1>.stop | b#?(x).stop", " | ")+" | "+last+");")
		wantLarge(t, p, 600, 0, err, err)
	}
}

func TestManyParts(t *testing.T) {
	names := list(1600, "p#: !# int.end", ", ")
	parts := list(1599, "p#!<#>.stop", " | ")
	p := program(t, "def X("+names+") = "+parts+" | p1599!<1>.stop; main = stop;")
	wantLarge(t, p, 8000, 0, ok, ok)
	p = program(t, "def X("+names+") = "+parts+" | p1599!<true>.stop; main = stop;")
	wantLarge(t, p, 8000, 0, badType, badType)
	p = program(t, "def X("+names+") = "+parts+" | p1598!<1>.stop; main = stop;")
	wantLarge(t, p, 8000, 0, linear, linear)
	// Names that are not live are in all Kids.
	names, parts = list(1000, "p#: end", ", "), strings.Repeat("stop | ", 1000)
	p = program(t, "def X("+names+", q: !end.end) = "+parts+"q!<p999>.stop; main = stop;")
	wantLarge(t, p, 2000, 0, ok, ok)
	p = program(t, "def X("+names+", q: !bool.end) = "+parts+"q!<p999>.stop; main = stop;")
	wantLarge(t, p, 2000, 0, badType, badType)
	p = program(t, "main = "+list(1000, "new (a#, b#: !int.end) (a#!<1>.stop | b#?(x).stop)", " | ")+";")
	wantLarge(t, p, 9000, 0, ok, ok)
	p = program(t, "main = "+list(1000, "new (a#, b#: !int.end) (a#!<1>.stop | b#?(x).stop)", " | ")+" | new (a, b: !int.end) (b!<1>.stop | a?(x).stop);")
	wantLarge(t, p, 9000, 0, badType, badType)
}

// PPars in each other, each of which splits all names that are left.
func TestManySplits(t *testing.T) {
	process := "p49!<1>.stop"
	for i := 48; i >= 0; i-- {
		process = fmt.Sprintf("(p%d!<1>.q%d!<2>.stop | r%d?(x%d).%s)", i, i, i, i, process)
	}
	names := list(49, "p#: !5 int.end, q#: !6 int.end, r#: ?# int.end", ", ")
	p := program(t, "def X("+names+", p49: !49 int.end) = "+process+"; main = stop;")
	wantLarge(t, p, 500, 0, badPrio, ok)
	names = list(49, "p#: !500 int.end, q#: !600 int.end, r#: ?# int.end", ", ")
	p = program(t, "def X("+names+", p49: !49 int.end) = "+process+"; main = stop;")
	wantLarge(t, p, 500, 0, ok, ok)
	p = program(t, "def X("+names+", p49: !48 int.end) = "+process+"; main = stop;")
	wantLarge(t, p, 500, 0, badPrio, ok)
	p = program(t, "def X("+names+", p49: !49 bool.end) = "+process+"; main = stop;")
	wantLarge(t, p, 500, 0, badType, badType)
}

func TestManyDefinitions(t *testing.T) {
	defs := list(1200, "def X#(a: rec t.!# int.t+1) = a!<1>.X#<a>; ", "")
	p := program(t, defs+"main = stop;")
	for _, i := range []int{0, 1, 599, 1199, 1200} {
		wantLarge(t, p, 6000, i, ok, ok)
	}
	p.Defs[1199].Params[0].T = api.Type{Kind: api.TBool}
	wantLarge(t, p, 6000, 1198, ok, ok)
	wantLarge(t, p, 6000, 1199, badType, badType)
	table := check.Prepare(p)
	for i := range 1201 {
		want := ok
		if i == 1199 {
			want = badType
		}
		if got := table.Body(i); got != want {
			t.Errorf("body %d: got %d, want %d", i, got, want)
		}
	}
}

func TestManyLabels(t *testing.T) {
	labels, kids := list(1000, "l#: t+#", ", "), list(999, "l#: X<a>", ", ")
	text := "def X(a: rec t.&7 {" + labels + "}) = a&{" + kids + ", l999: LAST}; def Y(a: rec t.&{" + labels + "}) = stop; def Z(a: rec t.&7 {" + list(999, "l#: t+#", ", ") + ", l999: t+998}) = stop; main = stop;"
	for last, err := range map[string]api.Errno{"X<a>": ok, "Y<a>": ok, "Z<a>": badType, "stop": linear, "a.l.stop": badType} {
		wantLarge(t, program(t, strings.Replace(text, "LAST", last, 1)), 4000, 0, err, err)
	}
	// In another order.
	p := program(t, strings.Replace(text, "LAST", "X<a>", 1))
	body := &p.Defs[0].Body
	body.Labels[0], body.Labels[999] = body.Labels[999], body.Labels[0]
	wantLarge(t, p, 4000, 0, ok, ok)
	body.Labels[0] = "m"
	wantLarge(t, p, 4000, 0, badLabel, badLabel)
	// A selection of many labels by many nodes.
	text = "def X(a: &{" + list(1000, "l#: rec t.+1 {l: t, m: end}", ", ") + "}) = a&{" + list(999, "l#: a.l.a.m.stop", ", ") + ", l999: a.l.a.LAST.stop}; main = stop;"
	wantLarge(t, program(t, strings.Replace(text, "LAST", "m", 1)), 7000, 0, ok, ok)
	wantLarge(t, program(t, strings.Replace(text, "LAST", "l", 1)), 7000, 0, linear, linear)
	wantLarge(t, program(t, strings.Replace(text, "LAST", "k", 1)), 7000, 0, badLabel, badLabel)
}

// Calls with many arguments; the list of arguments is the same one in all of them.
func TestManyArguments(t *testing.T) {
	x := api.Def{Name: "X", Body: api.Proc{Kind: api.PBranch, Chan: "c"}}
	y := api.Def{Name: "Y", Body: api.Proc{Kind: api.PStop}}
	var args []api.Value
	add := func(name string, t, other api.Type) {
		x.Params = append(x.Params, api.Param{Name: name, T: t})
		y.Params = append(y.Params, api.Param{Name: name, T: other})
		args = append(args, api.Value{Kind: api.VName, Name: name})
	}
	end := api.Type{Kind: api.TEnd}
	branch := api.Type{Kind: api.TBranch}
	for i := range 100 {
		branch.Labels = append(branch.Labels, fmt.Sprint("l", i))
		branch.Kids = append(branch.Kids, end)
	}
	for i := range 1500 {
		add(fmt.Sprint("p", i), end, end)
	}
	for i := range 900 {
		send := api.Type{Kind: api.TSend, Prio: 5 + i, Kids: []api.Type{{Kind: api.TInt}, end}}
		raised := send
		raised.Prio -= 3
		add(fmt.Sprint("q", i), send, raised)
	}
	add("c", branch, end)
	x.Body.Labels = branch.Labels
	for range branch.Labels {
		x.Body.Kids = append(x.Body.Kids, api.Proc{Kind: api.PCall, Chan: "Y", Args: args})
	}
	p := api.Program{Defs: []api.Def{x, y}, Main: api.Proc{Kind: api.PStop}}
	wantLarge(t, p, 7000, 0, ok, ok)
	last := slices.Clone(args)
	x.Body.Kids[99].Args = last
	for _, change := range []struct {
		arg int
		v   api.Value
		err api.Errno
	}{{2399, args[2398], linear}, {2399, api.Value{Kind: api.VInt}, badType}, {2399, args[2399], ok}, {0, args[2400], ok}, {0, args[2399], badType}} {
		last[change.arg] = change.v
		wantLarge(t, p, 7000, 0, change.err, change.err)
	}
	last[0] = args[0]
	wantLarge(t, p, 7000, 0, ok, ok)
	y.Params[2399].T.Prio++
	wantLarge(t, p, 7000, 0, badType, badType)
}

// Priorities beyond those that are permitted in types.
func TestGreatPriorities(t *testing.T) {
	prefix := strings.Repeat("a!<1>.", 90)
	great := "a: rec t.!1000000 int.t+1000000"
	wantBoth(t, "b: !1000000 int.end, a: rec t.!int.t+1000000", prefix+"Y<b, a>", badPrio, badType, "def Y(b: !1000000 int.end, a: rec t.!int.t+1000000) = stop;")
	wantBoth(t, "b: ?1000000 int.end, "+great, "b?(x)."+prefix+"Y<a>", badPrio, ok, "def Y(a: rec t.!5 int.t+1000000) = stop;")
	want(t, great, prefix+"Y<a>", ok, "def Y("+great+") = stop;")
	want(t, great, prefix+"Y<a>", ok, "def Y(a: rec t.!0 int.t+1000000) = stop;")
	want(t, great, prefix+"Y<a>", ok, "def Y(a: !0 int.rec t.!1000000 int.t+1000000) = stop;")
	want(t, great, prefix+"Y<a>", badType, "def Y(a: rec t.!0 int.t+999999) = stop;")
	want(t, great, prefix+"Y<a>", badType, "def Y(a: !0 int.rec t.!999999 int.t+1000000) = stop;")
	want(t, great+", b: !1000000 int.end", "b!<1>."+prefix+"Y<a>", badPrio, "def Y(a: rec t.!0 int.t+1000000) = stop;")
}
