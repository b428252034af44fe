package program_test

import (
	"fmt"
	"slices"
	"strings"
	"testing"

	"duologue/api"
	"duologue/parse"
	"duologue/proctree"
	"duologue/program"
)

// P15.1, where the results of all functions are checked for each text.

const (
	ok       = api.OK
	shape    = api.ErrShape
	name     = api.ErrName
	twice    = api.ErrTwice
	arity    = api.ErrArity
	guard    = api.ErrGuard
	badType  = api.ErrType
	badLabel = api.ErrLabel
	linear   = api.ErrLinear
	badPrio  = api.ErrPriority
)

// spoken are the words of the errors that a program can have whose text can be parsed.
var spoken = map[api.Errno]string{shape: "shape", name: "name", twice: "twice", arity: "arity", guard: "guard", badType: "type", badLabel: "label", linear: "linear", badPrio: "priority"}

// in is an error at a body.
func in(err api.Errno, at int) api.Fault {
	return api.Fault{Err: err, At: at}
}

var none = api.Fault{}

// tree parses the text of a program.
func tree(t *testing.T, text string) api.Program {
	t.Helper()
	p, fault := parse.Program(text)
	if fault.Err != ok {
		t.Fatalf("%s: %v", short(text), fault)
	}
	return p
}

func short(text string) string {
	if len(text) > 300 {
		return text[:150] + " .. " + text[len(text)-150:]
	}
	return text
}

func isZero(p api.Program) bool {
	return p.Defs == nil && proctree.Same(p.Main, api.Proc{})
}

// verdict is that of a program with a fault.
func verdict(p api.Program, fault api.Fault) string {
	if fault == none {
		return "accepted"
	}
	place := "main"
	if fault.At < len(p.Defs) {
		place = p.Defs[fault.At].Name
	}
	return spoken[fault.Err] + " in " + place
}

// want checks the results of all functions for the text of a program, with its faults in both ways of typing.
func want(t *testing.T, text string, strict, loose api.Fault) {
	t.Helper()
	p := tree(t, text)
	if got := program.Check(p); got != strict {
		t.Errorf("%s: got %v, want %v", short(text), got, strict)
	}
	if got := program.Loose(p); got != loose {
		t.Errorf("%s, loose: got %v, want %v", short(text), got, loose)
	}
	if got, want := program.Verdict(text), verdict(p, strict); got != want {
		t.Errorf("%s: the verdict is %q, want %q", short(text), got, want)
	}
	q, fault := program.Source(text)
	if fault != strict {
		t.Errorf("%s: Source has %v, want %v", short(text), fault, strict)
	}
	if strict == none && !proctree.SameProgram(p, q) {
		t.Errorf("%s: Source has another program: %v", short(text), q)
	}
	if strict != none && !isZero(q) {
		t.Errorf("%s: Source has a program together with a fault: %v", short(text), q)
	}
}

// wantBoth is for faults that do not depend on the way of typing.
func wantBoth(t *testing.T, text string, fault api.Fault) {
	t.Helper()
	want(t, text, fault, fault)
}

func TestExamples(t *testing.T) {
	want(t, "main = new (a, b: !int.end) (a!<1>.stop | b?(x).stop);", none, none)
	want(t, "main = new (a, b: !1 int.end) new (c, d: !2 int.end) (a!<1>.c!<2>.stop | d?(y).b?(x).stop);", in(badPrio, 0), none)
	want(t, "main = new (a, b: !1 int.end) new (c, d: !2 int.end) (a!<1>.c!<2>.stop | b?(x).d?(y).stop);", none, none)
	want(t, "def X(a: rec t.!int.t+1) = a!<1>.X<a>; main = stop;", none, none)
	want(t, "def X(a: end) = X<a>; main = stop;", in(guard, 0), in(guard, 0))
	want(t, "main = new (a, b: !int.end) (a!<true>.stop | b?(x).stop);", in(badType, 0), in(badType, 0))
	want(t, "main = X<>;", in(name, 0), in(name, 0))
}

// The verdicts that the document has itself.
func TestVerdictsOfTheDocument(t *testing.T) {
	for text, want := range map[string]string{
		"main = X<>;": "name in main",
		"main":        "syntax at 4",
		"main = new (a, b: !int.end) (a!<1>.stop | b?(x).stop);":                                      "accepted",
		"main = new (a, b: !1 int.end) new (c, d: !2 int.end) (a!<1>.c!<2>.stop | d?(y).b?(x).stop);": "priority in main",
		"main = new (a, b: !1 int.end) new (c, d: !2 int.end) (a!<1>.c!<2>.stop | b?(x).d?(y).stop);": "accepted",
		"def X(a: end) = X<a>; main = stop;":                                                          "guard in X",
		"main = new (a, b: !int.end) (a!<true>.stop | b?(x).stop);":                                   "type in main",
		"def X(a: end) = X<a>;": "syntax at 21",
		"def X(a: rec t.!int.t+1) = a!<1>.X<a>; main = new (a, b: rec t.!7 int.t+1) (X<a> | stop);":           "linear in main",
		"def X(a: rec t.!int.t+1) = a!<1>.X<a>; def Y(b: +{l: end}) = b.m.stop; main = new (a, b: end) stop;": "label in Y",
	} {
		if got := program.Verdict(text); got != want {
			t.Errorf("%s: got %q, want %q", text, got, want)
		}
	}
}

func TestAcceptedPrograms(t *testing.T) {
	for _, text := range []string{
		"main = stop;",
		"main = stop | stop | stop;",
		"main = new (a, b: end) stop;",
		"def X() = stop; main = stop;",
		"def X() = stop; def Y() = stop; main = X<> | Y<> | X<>;",
		"def X(n: int, b: bool, e: end) = stop; main = new (a, b: end) X<7, false, b>;",
		"def X(a: !int.end) = a!<1>.stop; def Y(a: ?int.end) = a?(x).stop; main = new (a, b: !5 int.end) (X<a> | Y<b>);",
		"def X(a: rec t.!int.t+1) = a!<1>.X<a>; def Y(a: rec t.?int.t+1) = a?(x).Y<a>; main = new (a, b: rec t.!7 int.t+1) (X<a> | Y<b>);",
		"def X(a: rec t.&{l: t+1, m: end}) = a&{m: stop, l: X<a>}; main = new (a, b: rec t.+{l: t+1, m: end}) (a.l.a.l.a.m.stop | X<b>);",
		"def Main() = stop; def main_() = stop; main = Main<> | main_<>;",
		"main = new (a, b: !1 (!3 int.end).end) new (c, d: !3 int.end) (a!<c>.stop | b?(x).x!<1>.stop | d?(y).stop);",
	} {
		want(t, text, none, none)
	}
	for i, p := range []api.Program{
		{Main: api.Proc{Kind: api.PStop}},
		{Defs: []api.Def{}, Main: api.Proc{Kind: api.PStop, Labels: []string{}, Args: []api.Value{}, Kids: []api.Proc{}}},
		{Defs: []api.Def{{Name: "X", Params: []api.Param{}, Body: api.Proc{Kind: api.PStop}}}, Main: api.Proc{Kind: api.PCall, Chan: "X"}},
	} {
		if fault, loose := program.Check(p), program.Loose(p); fault != none || loose != none {
			t.Errorf("program %d: got %v and %v", i, fault, loose)
		}
	}
}

// body is a process that can stand in each body behind the definition E() = stop.
type body struct {
	process       string
	names         api.Errno // the error of layer 6
	strict, loose api.Errno // those of layer 14, if there is none of layer 6
}

var rightBodies = []body{
	{"stop", ok, ok, ok},
	{"new (a, b: !int.end) (a!<1>.stop | b?(x).E<>)", ok, ok, ok},
}

// Each error of layer 14, also where there is another one, or none, without priorities.
var wrongBodies = []body{
	{"new (a, b: !int.end) (a!<true>.stop | b?(x).stop)", ok, badType, badType},
	{"new (a, b: +{l: end}) (a.m.stop | b&{l: stop})", ok, badLabel, badLabel},
	{"new (a, b: !int.end) (a!<1>.stop | stop)", ok, linear, linear},
	{"new (a, b: !int.end) a!<1>.b?(x).stop", ok, badPrio, ok},
	{"new (a, b: !int.end) a!<1>.b!<2>.stop", ok, badPrio, badType},
	{"new (a, b: +{l: end}) a.l.b&{m: stop}", ok, badPrio, badLabel},
	{"new (a, b: !int.end) a!<1>.E<>", ok, badPrio, linear},
}

// Each error of layer 6 that does not depend on the other bodies.
var wrongNames = []body{
	{"a!<1>.stop", name, ok, ok},
	{"new (a, b: !int.end) (a!<c>.stop | b?(x).stop)", name, ok, ok},
	{"new (a, b: !int.end) (a!<1>.F<> | b?(x).stop)", name, ok, ok},
	{"new (a, b: !int.end) (a!<1>.stop | b?(a).stop)", twice, ok, ok},
	{"new (a, b: end) new (b, c: end) stop", twice, ok, ok},
	{"new (a, b: !int.end) (a!<1>.E<1> | b?(x).stop)", arity, ok, ok},
	{"new (a, a: end) stop", shape, ok, ok},
	{"new (a, b: rec t.t) stop", shape, ok, ok},
	{"new (a, b: +{l: end, l: end}) stop", shape, ok, ok},
	// Together with an error of the types.
	{"new (a, b: !int.end) a!<true>.c!<1>.stop", name, ok, ok},
	{"new (a, b: +{l: end}) a.m.new (c, d: t) stop", shape, ok, ok},
}

// textOf is the program with these bodies, the last one of which is that of Main. The definition E is the one with the index e.
func textOf(e int, l ...body) string {
	s := ""
	for i, b := range l {
		if i == e {
			s += "def E() = stop; "
		}
		if i == len(l)-1 {
			return s + "main = " + b.process + ";"
		}
		s += fmt.Sprintf("def X%d() = %s; ", i, b.process)
	}
	return s
}

// faultsOf are the faults of that program.
func faultsOf(e int, l ...body) (strict, loose api.Fault) {
	first := func(errorOf func(b body) api.Errno) api.Fault {
		i := slices.IndexFunc(l, func(b body) bool { return errorOf(b) != ok })
		switch {
		case i < 0:
			return none
		case i < e:
			return in(errorOf(l[i]), i)
		}
		return in(errorOf(l[i]), i+1)
	}
	if slices.ContainsFunc(l, func(b body) bool { return b.names == shape }) {
		// Layer 3 comes before all names, and has no place.
		return in(shape, 0), in(shape, 0)
	}
	if fault := first(func(b body) api.Errno { return b.names }); fault != none {
		return fault, fault
	}
	return first(func(b body) api.Errno { return b.strict }), first(func(b body) api.Errno { return b.loose })
}

// ofTypes reports whether an error is one of layer 14.
func ofTypes(err api.Errno) bool {
	return err >= badType
}

func TestErrorOfOneBody(t *testing.T) {
	for _, b := range slices.Concat(rightBodies, wrongBodies, wrongNames) {
		for _, right := range rightBodies {
			for n := range 5 {
				for at := range n + 1 {
					l := make([]body, n+1)
					for i := range l {
						l[i] = right
					}
					l[at] = b
					for e := range n + 1 {
						strict, loose := faultsOf(e, l...)
						want(t, textOf(e, l...), strict, loose)
					}
				}
			}
		}
	}
}

// All programs with up to three bodies, which have all errors, and with four bodies, which have some.
func TestErrorsOfManyBodies(t *testing.T) {
	all := slices.Concat(rightBodies[1:], wrongBodies, wrongNames)
	some := []body{rightBodies[1], wrongBodies[0], wrongBodies[2], wrongBodies[3], wrongBodies[5], wrongNames[0], wrongNames[5], wrongNames[10]}
	seen := map[[2]api.Fault]int{}
	var grow func(n int, from, l []body)
	grow = func(n int, from, l []body) {
		if len(l) == n {
			e := len(seen) % n
			strict, loose := faultsOf(e, l...)
			want(t, textOf(e, l...), strict, loose)
			seen[[2]api.Fault{strict, loose}]++
			return
		}
		for _, b := range from {
			grow(n, from, append(l[:len(l):len(l)], b))
		}
	}
	for n := 1; n < 4; n++ {
		grow(n, all, nil)
	}
	grow(4, some, nil)
	for _, x := range [][2]api.Fault{{none, none}, {in(badPrio, 0), none}, {in(badPrio, 0), in(badLabel, 2)}, {in(badPrio, 1), in(badType, 3)}, {in(badPrio, 3), none}, {in(arity, 3), in(arity, 3)}} {
		if seen[x] == 0 {
			t.Errorf("no program has the faults %v", x)
		}
	}
}

// The same as in faultsOf, where each result is written out.
func TestErrorsWrittenOut(t *testing.T) {
	const (
		prio  = "new (a, b: !int.end) a!<1>.b?(x).stop; "
		types = "new (a, b: !int.end) (a!<true>.stop | b?(x).stop); "
		label = "new (a, b: +{l: end}) (a.m.stop | b&{l: stop}); "
		used  = "new (a, b: !int.end) stop; "
	)
	for _, x := range []struct {
		text          string
		strict, loose api.Fault
	}{
		// A definition, several definitions, Main only, and both.
		{"def X() = " + prio + "main = stop;", in(badPrio, 0), none},
		{"def X() = stop; def Y() = " + prio + "main = stop;", in(badPrio, 1), none},
		{"def X() = stop; def Y() = stop; main = " + prio, in(badPrio, 2), none},
		{"def X() = " + prio + "def Y() = " + types + "main = stop;", in(badPrio, 0), in(badType, 1)},
		{"def X() = " + prio + "main = " + label, in(badPrio, 0), in(badLabel, 1)},
		{"def X() = " + prio + "def Y() = stop; def Z() = " + prio + "main = " + used, in(badPrio, 0), in(linear, 3)},
		{"def X() = " + types + "def Y() = " + prio + "main = stop;", in(badType, 0), in(badType, 0)},
		{"def X() = stop; def Y() = " + label + "def Z() = " + used + "main = " + types, in(badLabel, 1), in(badLabel, 1)},
		{"def X() = " + used + "def Y() = stop; main = " + types, in(linear, 0), in(linear, 0)},
		{"main = " + types, in(badType, 0), in(badType, 0)},
		{"main = " + label, in(badLabel, 0), in(badLabel, 0)},
		{"main = " + used, in(linear, 0), in(linear, 0)},
		{"main = " + prio, in(badPrio, 0), none},
		// The names of all bodies come before the types of all.
		{"def X() = " + types + "def Y() = stop; main = Z<>;", in(name, 2), in(name, 2)},
		{"def X() = " + prio + "def Y() = X<>; main = stop;", in(guard, 1), in(guard, 1)},
		{"def X() = " + used + "def Y() = stop; main = Y<true>;", in(arity, 2), in(arity, 2)},
		{"def X() = " + label + "def X() = stop; main = stop;", in(twice, 1), in(twice, 1)},
		{"def X() = " + label + "def Y(a: end, a: end) = stop; main = stop;", in(twice, 1), in(twice, 1)},
		{"def X() = a!<1>.stop; def Y(a: end, a: end) = " + types + "main = " + types, in(twice, 1), in(twice, 1)},
		{"def X() = stop; def Y() = " + types + "main = new (a, a: end) stop;", in(shape, 0), in(shape, 0)},
		{"def X() = stop; def Y() = stop; main = new (a, b: end) new (b, c: end) " + types, in(twice, 2), in(twice, 2)},
		{"def X() = Y<>; def Y() = " + types + "main = Z<>;", in(guard, 0), in(guard, 0)},
		// Parameters, and calls of definitions behind and in front.
		{"def X(a: !int.end) = stop; main = stop;", in(linear, 0), in(linear, 0)},
		{"def X(a: !int.end, b: !int.end) = a!<1>.b!<2>.stop; main = stop;", in(badPrio, 0), none},
		{"def X(a: !int.end, b: !int.end) = a!<1>.b!<2>.stop; main = X<1, 2>;", in(badPrio, 0), in(badType, 1)},
		{"def X(a: ?int.end) = a?(x).Y<x>; def Y(n: bool) = stop; main = stop;", in(badType, 0), in(badType, 0)},
		{"def X(n: bool) = stop; def Y(a: ?int.end) = a?(x).X<x>; main = X<1>;", in(badType, 1), in(badType, 1)},
		{"def X(n: bool) = stop; def Y(a: ?int.end) = a?(x).stop; main = X<1>;", in(badType, 2), in(badType, 2)},
	} {
		want(t, x.text, x.strict, x.loose)
	}
}

// Each fault of layer 6 by itself, and with errors of the bodies.
func TestFaultsOfNames(t *testing.T) {
	for _, x := range []struct {
		defs, main string
		fault      api.Fault
	}{
		{"def X() = stop; def X() = stop;", "stop", in(twice, 1)},
		{"def X() = stop; def Y() = stop; def X(a: end) = stop;", "stop", in(twice, 2)},
		{"def X(a: end, b: int, a: end) = stop;", "stop", in(twice, 0)},
		{"def X(a: end) = stop; def Y(a: end, a: int) = stop;", "stop", in(twice, 1)},
		{"def X(a: end) = b!<1>.stop;", "stop", in(name, 0)},
		{"def X(a: end) = stop; def Y(a: end) = a!<b>.stop;", "stop", in(name, 1)},
		{"def X(a: end) = a?(x).Y<>;", "stop", in(name, 0)},
		{"def X(a: end) = stop;", "Y<>", in(name, 1)},
		{"def X(a: end) = a?(a).stop;", "stop", in(twice, 0)},
		{"def X(a: end) = new (b, a: end) stop;", "stop", in(twice, 0)},
		{"def X(a: end) = a!<1>.X<>;", "stop", in(arity, 0)},
		{"def X(a: end) = stop;", "X<1, 2>", in(arity, 1)},
		{"def X(a: end) = X<a>;", "stop", in(guard, 0)},
		{"def X(a: end) = stop; def Y() = stop | new (a, b: end) X<a>;", "stop", in(guard, 1)},
		{"def X(a: t) = stop;", "stop", in(shape, 0)},
		{"def X() = stop; def Y(a: rec t.t) = stop;", "stop", in(shape, 0)},
		{"def X() = stop; def Y(a: +{l: end, l: end}) = stop;", "stop", in(shape, 0)},
		{"def X() = stop; def Y(a: &{l: end}) = a&{l: stop, l: stop};", "stop", in(shape, 0)},
		{"def X() = stop;", "new (a, a: end) stop", in(shape, 0)},
		{"", "new (a, b: rec t.rec u.t) stop", in(shape, 0)},
		{"", "new (a, b: u) stop", in(shape, 0)},
		{"", "a!<1>.stop", in(name, 0)},
		{"", "new (a, b: end) new (a, c: end) stop", in(twice, 0)},
	} {
		wantBoth(t, x.defs+" main = "+x.main+";", x.fault)
		for _, b := range wrongBodies {
			wantBoth(t, x.defs+" def W() = "+strings.Replace(b.process, "E<>", "stop", 1)+"; main = "+x.main+";", moved(x.fault, strings.Count(x.defs, "def")))
			wantBoth(t, x.defs+" main = "+strings.Replace(b.process, "E<>", "stop", 1)+" | "+x.main+";", x.fault)
		}
	}
}

// moved is the fault of a program, if a definition is added behind the others, of which there are n.
func moved(fault api.Fault, n int) api.Fault {
	if fault.At == n && fault.Err != shape {
		fault.At++
	}
	return fault
}

// Faults that only trees have, since their texts cannot be parsed.
func TestFaultsOfTrees(t *testing.T) {
	deep, deeper := api.Proc{Kind: api.PStop}, api.Type{Kind: api.TEnd}
	for range 99 {
		deep = api.Proc{Kind: api.PSelect, Chan: "a", Labels: []string{"l"}, Kids: []api.Proc{deep}}
		deeper = api.Type{Kind: api.TSelect, Labels: []string{"l"}, Kids: []api.Type{deeper}}
	}
	tooDeep := api.Proc{Kind: api.PSelect, Chan: "a", Labels: []string{"l"}, Kids: []api.Proc{deep}}
	tooDeepType := api.Type{Kind: api.TSelect, Labels: []string{"l"}, Kids: []api.Type{deeper}}
	wide := api.Proc{Kind: api.PPar, Kids: make([]api.Proc, 9997)}
	for i := range wide.Kids {
		wide.Kids[i] = api.Proc{Kind: api.PStop}
	}
	for _, x := range []struct {
		text   string
		change func(p *api.Program)
		fault  api.Fault
	}{
		{"def X() = stop; def Y() = stop; main = stop;", func(p *api.Program) { p.Main = tooDeep }, in(api.ErrLimit, 0)},
		{"def X() = stop; def Y() = stop; main = stop;", func(p *api.Program) { p.Defs[1].Body = tooDeep }, in(api.ErrLimit, 0)},
		{"def X() = stop; def Y() = stop; main = stop;", func(p *api.Program) { p.Main = deep }, in(name, 2)},
		{"def X() = stop; def Y(a: int) = stop; main = stop;", func(p *api.Program) { p.Defs[1].Body = deep }, in(badType, 1)},
		{"def X() = stop; def Y(a: end) = stop; main = stop;", func(p *api.Program) { p.Defs[1].Params[0].T = tooDeepType }, in(shape, 0)},
		{"def X() = stop; def Y(a: end) = stop; main = stop;", func(p *api.Program) { p.Defs[1].Params[0].T = deeper }, in(linear, 1)},
		{"def X() = stop; def Y(a: end) = stop; main = stop;", func(p *api.Program) { p.Defs[1].Params[0].T, p.Defs[1].Body = deeper, deep }, none},
		{"def X() = stop; def Y() = stop; main = stop;", func(p *api.Program) { p.Main = wide }, none},
		{"def X() = stop; def Y() = new (a, b: !int.end) stop; main = stop;", func(p *api.Program) { p.Main = wide }, in(api.ErrLimit, 0)},
		{"def X() = stop; def Y() = stop; main = new (a, b: end) stop;", func(p *api.Program) { p.Main.T.Kind = api.TInt }, in(shape, 0)},
		{"def X() = stop; def Y() = stop; main = stop;", func(p *api.Program) { p.Main = api.Proc{} }, in(shape, 0)},
		{"def X() = stop; def Y() = stop; main = stop;", func(p *api.Program) { p.Defs[1].Body.Chan = "a" }, in(shape, 0)},
		{"def X() = stop; def Y() = stop; main = stop;", func(p *api.Program) { p.Defs[1].Name = "" }, in(shape, 0)},
		{"def X() = stop; def Y() = stop; main = stop;", func(p *api.Program) { p.Defs[1].Name = "main" }, in(shape, 0)},
		{"def X() = stop; def Y() = stop; main = new (a, b: !int.end) stop;", func(p *api.Program) { p.Defs[1].Name = "X" }, in(twice, 1)},
		{"def X() = stop; main = new (a, b: !int.end) (a!<1>.stop | b?(x).stop);", func(p *api.Program) { p.Main.T.Prio = api.MaxPrio }, none},
		{"def X() = stop; main = new (a, b: !int.end) (a!<1>.stop | b?(x).stop);", func(p *api.Program) { p.Main.T.Prio = api.MaxPrio + 1 }, in(shape, 0)},
		{"def X() = stop; main = new (a, b: !int.end) (a!<1>.stop | b?(x).stop);", func(p *api.Program) { p.Main.T.Prio = -1 }, in(shape, 0)},
	} {
		p := tree(t, x.text)
		x.change(&p)
		if fault, loose := program.Check(p), program.Loose(p); fault != x.fault || loose != x.fault {
			t.Errorf("%s: got %v and %v, want %v", x.text, fault, loose, x.fault)
		}
		// With an error in front, only a fault of names stays what it is.
		p = tree(t, strings.Replace(x.text, "def X() = stop;", "def X() = new (v, w: !int.end) stop;", 1))
		x.change(&p)
		fault := x.fault
		if fault == none || ofTypes(fault.Err) {
			fault = in(linear, 0)
		}
		if proctree.Total(p) > api.MaxNodes {
			fault = in(api.ErrLimit, 0)
		}
		if got, loose := program.Check(p), program.Loose(p); got != fault || loose != fault {
			t.Errorf("%s, with an error in front: got %v and %v, want %v", x.text, got, loose, fault)
		}
	}
	if got, loose := program.Check(api.Program{}), program.Loose(api.Program{}); got != in(shape, 0) || loose != in(shape, 0) {
		t.Errorf("the zero program: got %v and %v", got, loose)
	}
}
