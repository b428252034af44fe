package program_test

import (
	"strings"
	"testing"

	"duologue/api"
	"duologue/proctree"
	"duologue/program"
)

// P1 for programs and texts that are as large as the limits permit, and for trees beyond them.

const (
	badPrioBody = "new (a, b: !int.end) a!<1>.b?(x).stop"
	badTypeBody = "new (a, b: !int.end) (a!<true>.stop | b?(x).stop)"
	linearBody  = "new (a, b: !int.end) stop"
)

func TestManyDefinitions(t *testing.T) {
	defs := list(1200, "def X#(a: rec t.!# int.t+1) = a!<#>.X#<a>; ", "")
	want(t, defs+"main = stop;", none, none)
	want(t, defs+"main = "+badPrioBody+";", in(badPrio, 1200), none)
	wantBoth(t, defs+"main = "+linearBody+";", in(linear, 1200))
	want(t, defs+"def Y() = "+badPrioBody+"; def Z() = "+badTypeBody+"; main = stop;", in(badPrio, 1200), in(badType, 1201))
	want(t, "def Z() = "+badPrioBody+"; "+defs+"main = "+linearBody+";", in(badPrio, 0), in(linear, 1201))
	wantBoth(t, "def Z() = "+badTypeBody+"; "+defs+"main = Y<>;", in(name, 1201))
	wantBoth(t, "def Z() = "+badTypeBody+"; "+defs+"def X1199() = stop; main = X<>;", in(twice, 1201))
	wantBoth(t, defs+"def Z() = "+badTypeBody+"; main = new (a, a: end) stop;", in(shape, 0))
}

func TestManyErrors(t *testing.T) {
	defs := list(800, "def X#() = "+badPrioBody+"; ", "")
	want(t, defs+"main = stop;", in(badPrio, 0), none)
	want(t, defs+"main = "+badPrioBody+";", in(badPrio, 0), none)
	want(t, defs+"def Y() = stop; main = "+linearBody+";", in(badPrio, 0), in(linear, 801))
	want(t, defs+"def Y() = "+badTypeBody+"; main = "+linearBody+";", in(badPrio, 0), in(badType, 800))
	wantBoth(t, defs+"main = X800<>;", in(name, 800))
	wantBoth(t, list(800, "def X#() = "+linearBody+"; ", "")+"main = "+badTypeBody+";", in(linear, 0))
}

func TestLargeBodies(t *testing.T) {
	right := list(999, "new (a#, b#: !# int.end) (a#!<1>.stop | b#?(x).stop)", " | ")
	for _, x := range []struct {
		last          string
		strict, loose api.Fault
	}{
		{"(a!<1>.stop | b?(x).stop)", none, none},
		{"(a!<1>.stop | b!<1>.stop)", in(badType, 1), in(badType, 1)},
		{"(a!<1>.stop | stop)", in(linear, 1), in(linear, 1)},
		{"a!<1>.b?(x).stop", in(badPrio, 1), none},
		{"a!<1>.b!<1>.stop", in(badPrio, 1), in(badType, 1)},
		{"a!<1>.stop", in(badPrio, 1), in(linear, 1)},
		{"a!<c>.stop", in(name, 1), in(name, 1)},
	} {
		text := "def X() = stop; main = " + right + " | new (a, b: !int.end) " + x.last + ";"
		if got := proctree.Total(tree(t, text)); got < 8990 {
			t.Errorf("the size is %d", got)
		}
		want(t, text, x.strict, x.loose)
		want(t, strings.Replace(text, "X()", "X(e: end)", 1), x.strict, x.loose)
	}
}

func TestDeepBodies(t *testing.T) {
	news := list(97, "new (a#, b#: !# int.end) ", "") + "(" + list(96, "a#!<1>.stop | b#?(x).stop", " | ") + " | LAST)"
	for last, err := range map[string]api.Errno{"a96!<1>.stop | b96?(x).stop": ok, "a96!<true>.stop | b96?(x).stop": badType, "a96!<1>.stop": linear, "a97!<1>.stop": name, "a96!<1>.Y<> | b96?(x).stop": name, "a96!<1>.X<1> | b96?(x).stop": arity} {
		body := strings.Replace(news, "LAST", last, 1)
		fault := in(err, 1)
		if err == ok {
			fault = none
		}
		wantBoth(t, "def X() = stop; def Z() = "+body+"; main = stop;", fault)
		wantBoth(t, "def X() = stop; main = "+body+";", fault)
	}
}

// Texts with as many bytes as there can be.
func TestFullTexts(t *testing.T) {
	long := strings.Repeat("n", 60000)
	rest := "() = stop; main = stop;"
	full := long + strings.Repeat("m", api.MaxBytes-len(long)-len("def "+rest))
	wantBoth(t, "def "+long+rest, none)
	wantBoth(t, "def "+full+rest, none)
	wantUnparsed(t, "def "+full+"m"+rest, limit, api.MaxBytes)
	wantBoth(t, "def "+long+"() = "+linearBody+"; main = stop;", in(linear, 0))
	if got := program.Verdict("def " + long + "() = " + badPrioBody + "; main = stop;"); got != "priority in "+long {
		t.Errorf("got %q", short(got))
	}
	text := "main = " + strings.Repeat("stop|", 9998)
	wantBoth(t, text+"stop; "+strings.Repeat("#", api.MaxBytes-len(text)-6), none)
	text = "def X() = stop; main = " + list(4000, "X<>", " | ") + " | new (a, b: end) X<b>;"
	wantBoth(t, text+strings.Repeat("\n", api.MaxBytes-len(text)), in(arity, 1))
}

// Check and Loose are specified for depths of up to 1000.
func TestTreesBeyondTheLimits(t *testing.T) {
	deep, deepType := api.Proc{Kind: api.PStop}, api.Type{Kind: api.TEnd}
	for range 999 {
		deep = api.Proc{Kind: api.PRecv, Chan: "a", Var: "a", Kids: []api.Proc{deep}}
		deepType = api.Type{Kind: api.TRec, Name: "t", Kids: []api.Type{deepType}}
	}
	stop := api.Proc{Kind: api.PStop}
	wide := api.Proc{Kind: api.PPar, Kids: make([]api.Proc, 1<<20)}
	open := api.Proc{Kind: api.PNew, Chan: "a", Var: "b", T: deepType, Kids: []api.Proc{stop}}
	many := make([]api.Def, 1<<16)
	for i, x := range []struct {
		p   api.Program
		err api.Errno
	}{
		{api.Program{Main: deep}, limit}, {api.Program{Main: wide}, limit}, {api.Program{Main: open}, shape},
		{api.Program{Defs: []api.Def{{Name: "X", Body: stop}, {Name: "X", Body: deep}}, Main: stop}, limit},
		{api.Program{Defs: []api.Def{{Name: "X", Body: wide}}}, limit},
		{api.Program{Defs: []api.Def{{Name: "X", Body: open}, {Name: "X", Body: open}}, Main: deep}, shape},
		{api.Program{Defs: []api.Def{{Name: "X", Body: stop}, {Name: "X", Body: deep}}, Main: open}, limit},
		{api.Program{Defs: []api.Def{{Name: "X", Params: []api.Param{{Name: "a", T: deepType}}, Body: stop}}, Main: stop}, shape},
		{api.Program{Defs: many, Main: stop}, limit},
	} {
		if got, loose := program.Check(x.p), program.Loose(x.p); got != in(x.err, 0) || loose != in(x.err, 0) {
			t.Errorf("program %d: got %v and %v, want %v", i, got, loose, x.err)
		}
	}
}
