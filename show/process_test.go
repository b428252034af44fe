package show_test

import (
	"math"
	"testing"

	"duologue/api"
	"duologue/show"
)

// valueTexts are values with their texts.
func valueTexts() map[string]api.Value {
	return map[string]api.Value{
		"a": name("a"), "_": name("_"), "True": name("True"), "x10": name("x10"), "true": boolean(1), "false": boolean(0),
		"0": num(0), "1": num(1), "-1": num(-1), "7": num(7), "10": num(10), "-10": num(-10), "1000000": num(1000000), "-1000001": num(-1000001),
		"2147483648": num(1 << 31), "-2147483649": num(-1<<31 - 1), "4294967296": num(1 << 32), "9007199254740993": num(1<<53 + 1),
		"9223372036854775807": num(math.MaxInt64), "-9223372036854775808": num(math.MinInt64), "-9223372036854775807": num(-math.MaxInt64),
	}
}

// P5.1: values.

func TestValues(t *testing.T) {
	for text, v := range valueTexts() {
		wantText(t, show.Value(v), text)
		wantProcess(t, send("a", v, stop), "a!<"+text+">.stop")
		wantProcess(t, call("X", v), "X<"+text+">")
		wantProcess(t, call("X", name("b"), v, num(1)), "X<b, "+text+", 1>")
	}
}

// P5.1: processes.

func TestProcessesOfEachKind(t *testing.T) {
	wantProcess(t, stop, "stop")
	wantProcess(t, send("a", name("b"), stop), "a!<b>.stop")
	wantProcess(t, recv("a", "x", stop), "a?(x).stop")
	wantProcess(t, sel("a", "l", stop), "a.l.stop")
	wantProcess(t, branch("a", "l", stop), "a&{l: stop}")
	wantProcess(t, branch("a", "m l k", call("X"), stop, sel("b", "m", stop)), "a&{m: X<>, l: stop, k: b.m.stop}")
	wantProcess(t, scope("a", "b", tend, stop), "new (a, b: end) stop")
	wantProcess(t, scope("b", "a", tsend(3, trecv(0, tint, tend), tend), call("X")), "new (b, a: !3 (?int.end).end) X<>")
	wantProcess(t, par(stop, stop), "stop | stop")
	wantProcess(t, par(stop, call("X"), stop, call("Y")), "stop | X<> | stop | Y<>")
	wantProcess(t, call("X"), "X<>")
	wantProcess(t, call("X", name("a")), "X<a>")
	wantProcess(t, call("X", name("a"), name("a"), num(-1), boolean(1), boolean(0)), "X<a, a, -1, true, false>")
}

// restKinds are the ways of putting a process behind a beginning.
func restKinds() map[string]func(api.Proc) api.Proc {
	return map[string]func(api.Proc) api.Proc{
		"a!<1>.":           func(p api.Proc) api.Proc { return send("a", num(1), p) },
		"a!<c>.":           func(p api.Proc) api.Proc { return send("a", name("c"), p) },
		"a?(b).":           func(p api.Proc) api.Proc { return recv("a", "b", p) },
		"a.b.":             func(p api.Proc) api.Proc { return sel("a", "b", p) },
		"new (a, b: end) ": func(p api.Proc) api.Proc { return scope("a", "b", tend, p) },
	}
}

// A PPar as a rest is in parentheses, and no other process is.
func TestRestsOfProcesses(t *testing.T) {
	two := par(stop, call("Y"))
	for before, with := range restKinds() {
		for _, x := range []struct {
			rest api.Proc
			text string
		}{
			{stop, "stop"}, {call("X"), "X<>"}, {call("X", num(1), num(2)), "X<1, 2>"}, {send("a", num(1), stop), "a!<1>.stop"}, {recv("a", "b", stop), "a?(b).stop"},
			{sel("a", "b", stop), "a.b.stop"}, {branch("a", "b", stop), "a&{b: stop}"}, {branch("a", "b c", two, stop), "a&{b: stop | Y<>, c: stop}"}, {scope("a", "b", tend, stop), "new (a, b: end) stop"},
			{two, "(stop | Y<>)"}, {par(stop, stop, stop), "(stop | stop | stop)"}, {par(sel("a", "b", two), two.Kids[1]), "(a.b.(stop | Y<>) | Y<>)"},
		} {
			wantProcess(t, with(x.rest), before+x.text)
			for before2, with2 := range restKinds() {
				wantProcess(t, with2(with(x.rest)), before2+before+x.text)
			}
			wantProcess(t, par(with(x.rest), stop), before+x.text+" | stop")
			wantProcess(t, par(stop, with(x.rest)), "stop | "+before+x.text)
		}
	}
}

// A Kid of a PBranch is in no parentheses, also if it is a PPar.
func TestKidsOfBranches(t *testing.T) {
	two := par(stop, call("Y"))
	wantProcess(t, branch("a", "b", two), "a&{b: stop | Y<>}")
	wantProcess(t, branch("a", "b c d", two, stop, par(sel("a", "b", two), stop)), "a&{b: stop | Y<>, c: stop, d: a.b.(stop | Y<>) | stop}")
	wantProcess(t, branch("a", "b", branch("c", "d e", two, branch("f", "g", two))), "a&{b: c&{d: stop | Y<>, e: f&{g: stop | Y<>}}}")
	wantProcess(t, par(branch("a", "b c", two, stop), stop), "a&{b: stop | Y<>, c: stop} | stop")
	for before, with := range restKinds() {
		wantProcess(t, with(branch("a", "b c", two, with(two))), before+"a&{b: stop | Y<>, c: "+before+"(stop | Y<>)}")
		wantProcess(t, branch("a", "b", par(with(two), with(stop))), "a&{b: "+before+"(stop | Y<>) | "+before+"stop}")
	}
}

// Labels keep their order.
func TestLabelsOfBranches(t *testing.T) {
	wantProcess(t, branch("a", "z y x", stop, call("X"), stop), "a&{z: stop, y: X<>, x: stop}")
	wantProcess(t, branch("a", "a b c d e f g h i j k l", stop, stop, stop, stop, stop, stop, stop, stop, stop, stop, stop, call("X")),
		"a&{a: stop, b: stop, c: stop, d: stop, e: stop, f: stop, g: stop, h: stop, i: stop, j: stop, k: stop, l: X<>}")
}

func TestTypesOfScopes(t *testing.T) {
	for text, u := range map[string]api.Type{
		"end": tend, "!int.end": tsend(0, tint, tend), "?2 (!3 bool.end).end": trecv(2, tsend(3, tbool, tend), tend), "+{a: end, b: ?int.end}": tselect(0, "a b", tend, trecv(0, tint, tend)),
		"&4{a: end}": tbranch(4, "a", tend), "rec t.!int.t+1": trec("t", tsend(0, tint, tvar("t", 1))),
	} {
		wantProcess(t, scope("a", "b", u, stop), "new (a, b: "+text+") stop")
		wantProcess(t, scope("a", "b", u, par(stop, stop)), "new (a, b: "+text+") (stop | stop)")
		wantProcess(t, par(scope("a", "b", u, scope("c", "d", u, stop)), stop), "new (a, b: "+text+") new (c, d: "+text+") stop | stop")
	}
}

// P5.1: programs.

func TestProgramsWithoutDefinitions(t *testing.T) {
	wantProgram(t, prog(stop), "main = stop;\n")
	wantProgram(t, api.Program{Defs: []api.Def{}, Main: call("X")}, "main = X<>;\n")
	wantProgram(t, prog(par(stop, call("X"))), "main = stop | X<>;\n")
	wantProgram(t, prog(scope("a", "b", tsend(0, tint, tend), par(send("a", num(1), stop), recv("b", "x", stop)))), "main = new (a, b: !int.end) (a!<1>.stop | b?(x).stop);\n")
}

func TestProgramsWithDefinitions(t *testing.T) {
	wantProgram(t, prog(stop, def("X", stop)), "def X() = stop;\nmain = stop;\n")
	wantProgram(t, prog(call("X"), def("X", par(stop, stop))), "def X() = stop | stop;\nmain = X<>;\n")
	wantProgram(t, prog(stop, def("X", stop, param("a", tend))), "def X(a: end) = stop;\nmain = stop;\n")
	wantProgram(t, prog(stop, def("X", stop, param("a", tint), param("b", tbool))), "def X(a: int, b: bool) = stop;\nmain = stop;\n")
	wantProgram(t, prog(par(call("Y", num(1)), stop),
		def("Z", stop),
		def("Y", send("a", name("b"), par(stop, call("X", name("a")))), param("a", tbool), param("b", tsend(2, tint, tend)), param("c", tselect(0, "l m", tend, trec("t", trecv(0, tint, tvar("t", 0)))))),
		def("X", branch("c", "d", par(stop, stop)), param("c", tvar("t", 1)))),
		"def Z() = stop;\n"+
			"def Y(a: bool, b: !2 int.end, c: +{l: end, m: rec t.?int.t}) = a!<b>.(stop | X<a>);\n"+
			"def X(c: t+1) = c&{d: stop | stop};\n"+
			"main = Y<1> | stop;\n")
}

// The order of definitions and parameters, and names that occur twice, stay as they are.
func TestDefinitionsAndParametersKeepTheirOrder(t *testing.T) {
	wantProgram(t, prog(stop, def("X", stop, param("b", tint), param("a", tbool), param("b", tend)), def("A", stop), def("X", call("A"))),
		"def X(b: int, a: bool, b: end) = stop;\ndef A() = stop;\ndef X() = A<>;\nmain = stop;\n")
}

// The type of a parameter is in no parentheses.
func TestTypesOfParameters(t *testing.T) {
	for text, u := range map[string]api.Type{
		"int": tint, "bool": tbool, "end": tend, "t": tvar("t", 0), "t+9": tvar("t", 9), "!int.end": tsend(0, tint, tend), "?5 (rec t.t).end": trecv(5, trec("t", tvar("t", 0)), tend),
		"+{a: end}": tselect(0, "a", tend), "&1{a: end, b: end}": tbranch(1, "a b", tend, tend), "rec t.!t.t": trec("t", tsend(0, tvar("t", 0), tvar("t", 0))),
	} {
		wantProgram(t, prog(stop, def("X", stop, param("a", u))), "def X(a: "+text+") = stop;\nmain = stop;\n")
		wantProgram(t, prog(stop, def("X", stop, param("a", u), param("b", tint), param("c", u))), "def X(a: "+text+", b: int, c: "+text+") = stop;\nmain = stop;\n")
	}
}

// P1: trees that are not well-formed have some text.
func TestTreesThatAreNotWellFormed(t *testing.T) {
	for kind := -1; kind <= 11; kind++ {
		for _, labels := range [][]string{nil, {"a"}, {"a", "b", ""}} {
			for _, kids := range [][]api.Type{nil, {tint}, {{}, {Kind: 99}, {Kind: kind}}} {
				show.Type(api.Type{Kind: kind, Prio: -1, Shift: -1, Labels: labels, Kids: kids})
			}
			for _, kids := range [][]api.Proc{nil, {{}}, {stop, par(), par(par())}} {
				for _, args := range [][]api.Value{nil, {{}}, {{Kind: kind}, boolean(2), boolean(-1)}} {
					p := api.Proc{Kind: kind, Labels: labels, Args: args, Kids: kids, T: api.Type{Kind: kind}}
					show.Process(p)
					show.Program(prog(p, def("", p, param("", api.Type{Kind: kind}))))
				}
			}
		}
		show.Value(api.Value{Kind: kind, N: 2})
	}
}
