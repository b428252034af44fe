package parse_test

import (
	"math"
	"strconv"
	"strings"
	"testing"

	"duologue/api"
	"duologue/parse"
	"duologue/proctree"
	"duologue/typetree"
)

var (
	stop  = api.Proc{Kind: api.PStop}
	tint  = api.Type{Kind: api.TInt}
	tbool = api.Type{Kind: api.TBool}
	tend  = api.Type{Kind: api.TEnd}
)

// exchange is a TSend or a TRecv.
func exchange(kind, prio int, payload, rest api.Type) api.Type {
	return api.Type{Kind: kind, Prio: prio, Kids: []api.Type{payload, rest}}
}

// choice is a TSelect or a TBranch; it takes its labels as one text with blanks.
func choice(kind, prio int, labels string, kids ...api.Type) api.Type {
	return api.Type{Kind: kind, Prio: prio, Labels: strings.Fields(labels), Kids: kids}
}

func trec(name string, body api.Type) api.Type {
	return api.Type{Kind: api.TRec, Name: name, Kids: []api.Type{body}}
}

func tvar(name string, shift int) api.Type {
	return api.Type{Kind: api.TVar, Name: name, Shift: shift}
}

// name, num and boolean are values.
func name(s string) api.Value {
	return api.Value{Kind: api.VName, Name: s}
}

func num(n int64) api.Value {
	return api.Value{Kind: api.VInt, N: n}
}

func boolean(n int64) api.Value {
	return api.Value{Kind: api.VBool, N: n}
}

func send(c string, v api.Value, rest api.Proc) api.Proc {
	return api.Proc{Kind: api.PSend, Chan: c, Args: []api.Value{v}, Kids: []api.Proc{rest}}
}

func recv(c, x string, rest api.Proc) api.Proc {
	return api.Proc{Kind: api.PRecv, Chan: c, Var: x, Kids: []api.Proc{rest}}
}

func sel(c, label string, rest api.Proc) api.Proc {
	return api.Proc{Kind: api.PSelect, Chan: c, Labels: []string{label}, Kids: []api.Proc{rest}}
}

// branch takes its labels as one text with blanks.
func branch(c, labels string, kids ...api.Proc) api.Proc {
	return api.Proc{Kind: api.PBranch, Chan: c, Labels: strings.Fields(labels), Kids: kids}
}

func scope(c, d string, t api.Type, rest api.Proc) api.Proc {
	return api.Proc{Kind: api.PNew, Chan: c, Var: d, T: t, Kids: []api.Proc{rest}}
}

func par(kids ...api.Proc) api.Proc {
	return api.Proc{Kind: api.PPar, Kids: kids}
}

func call(c string, args ...api.Value) api.Proc {
	return api.Proc{Kind: api.PCall, Chan: c, Args: args}
}

func def(name string, body api.Proc, params ...api.Param) api.Def {
	return api.Def{Name: name, Params: params, Body: body}
}

func param(name string, t api.Type) api.Param {
	return api.Param{Name: name, T: t}
}

func prog(main api.Proc, defs ...api.Def) api.Program {
	return api.Program{Defs: defs, Main: main}
}

// short shortens a text for a message.
func short(s string) string {
	if len(s) <= 100 {
		return strconv.Quote(s)
	}
	return strconv.Quote(s[:100]) + ".. (" + strconv.Itoa(len(s)) + " bytes)"
}

func wantType(t *testing.T, s string, want api.Type) {
	t.Helper()
	if got, f := parse.Type(s); f != (api.Fault{}) || !typetree.Same(got, want) {
		t.Errorf("%s: got %v and fault %v, want %v", short(s), got, f, want)
	}
}

func wantProcess(t *testing.T, s string, want api.Proc) {
	t.Helper()
	if got, f := parse.Process(s); f != (api.Fault{}) || !proctree.Same(got, want) {
		t.Errorf("%s: got %v and fault %v, want %v", short(s), got, f, want)
	}
}

func wantProgram(t *testing.T, s string, want api.Program) {
	t.Helper()
	if got, f := parse.Program(s); f != (api.Fault{}) || !proctree.SameProgram(got, want) {
		t.Errorf("%s: got %v and fault %v, want %v", short(s), got, f, want)
	}
}

// P4.1: the trees of types.

func TestTypesWithoutParts(t *testing.T) {
	wantType(t, "int", tint)
	wantType(t, "bool", tbool)
	wantType(t, "end", tend)
	wantType(t, "t", tvar("t", 0))
	wantType(t, "t+5", tvar("t", 5))
	wantType(t, "Int", tvar("Int", 0))
	wantType(t, "_1", tvar("_1", 0))
}

func TestExchanges(t *testing.T) {
	for sign, kind := range map[string]int{"!": api.TSend, "?": api.TRecv} {
		wantType(t, sign+"int.end", exchange(kind, 0, tint, tend))
		wantType(t, sign+"bool.t", exchange(kind, 0, tbool, tvar("t", 0)))
		wantType(t, sign+"end.end", exchange(kind, 0, tend, tend))
		wantType(t, sign+"t.u", exchange(kind, 0, tvar("t", 0), tvar("u", 0)))
		wantType(t, sign+"3 t+4.u+5", exchange(kind, 3, tvar("t", 4), tvar("u", 5)))
		wantType(t, sign+"3int.end", exchange(kind, 3, tint, tend))
		wantType(t, sign+"(end).(end)", exchange(kind, 0, tend, tend))
		wantType(t, sign+"(t+1).end", exchange(kind, 0, tvar("t", 1), tend))
		wantType(t, sign+"2 (!3 int.end).?4 bool.t", exchange(kind, 2, exchange(api.TSend, 3, tint, tend), exchange(api.TRecv, 4, tbool, tvar("t", 0))))
		wantType(t, sign+"(+{a: end}).&{b: end}", exchange(kind, 0, choice(api.TSelect, 0, "a", tend), choice(api.TBranch, 0, "b", tend)))
		wantType(t, sign+"(rec t.t).rec u.u", exchange(kind, 0, trec("t", tvar("t", 0)), trec("u", tvar("u", 0))))
	}
}

func TestChoices(t *testing.T) {
	for sign, kind := range map[string]int{"+": api.TSelect, "&": api.TBranch} {
		wantType(t, sign+"{a: end}", choice(kind, 0, "a", tend))
		wantType(t, sign+"7{a: t+1, b: end}", choice(kind, 7, "a b", tvar("t", 1), tend))
		wantType(t, sign+"{c: end, b: !int.end, a: +{z: t}}", choice(kind, 0, "c b a", tend, exchange(api.TSend, 0, tint, tend), choice(api.TSelect, 0, "z", tvar("t", 0))))
		wantType(t, sign+"{a: (end), b: ((t))}", choice(kind, 0, "a b", tend, tvar("t", 0)))
		wantType(t, sign+"{a: rec t.t, a: end}", choice(kind, 0, "a a", trec("t", tvar("t", 0)), tend))
	}
}

func TestRecursions(t *testing.T) {
	wantType(t, "rec t.end", trec("t", tend))
	wantType(t, "rec t.t", trec("t", tvar("t", 0)))
	wantType(t, "rec t.rec t.t+2", trec("t", trec("t", tvar("t", 2))))
	wantType(t, "rec t.(!int.t+1)", trec("t", exchange(api.TSend, 0, tint, tvar("t", 1))))
	wantType(t, "(rec t.!int.t+1)", trec("t", exchange(api.TSend, 0, tint, tvar("t", 1))))
	wantType(t, "rec a.&{a: a}", trec("a", choice(api.TBranch, 0, "a", tvar("a", 0))))
}

func TestTheRestReachesAsFarAsPossible(t *testing.T) {
	end := exchange(api.TRecv, 0, tbool, tend)
	wantType(t, "!int.?bool.end", exchange(api.TSend, 0, tint, end))
	wantType(t, "!int.rec t.?bool.end", exchange(api.TSend, 0, tint, trec("t", end)))
	wantType(t, "+{a: !int.?bool.end, b: ?bool.end}", choice(api.TSelect, 0, "a b", exchange(api.TSend, 0, tint, end), end))
}

func TestNumbersOfTypes(t *testing.T) {
	for text, n := range map[string]int{"0": 0, "1": 1, "10": 10, "999999": 999999, "1000000": api.MaxPrio} {
		wantType(t, "!"+text+" int.end", exchange(api.TSend, n, tint, tend))
		wantType(t, "?"+text+" int.end", exchange(api.TRecv, n, tint, tend))
		wantType(t, "+"+text+"{a: end}", choice(api.TSelect, n, "a", tend))
		wantType(t, "&"+text+"{a: end}", choice(api.TBranch, n, "a", tend))
		wantType(t, "t+"+text, tvar("t", n))
		wantType(t, "!t+"+text+".end", exchange(api.TSend, 0, tvar("t", n), tend))
	}
}

// P4.1: the trees of processes.

func TestValues(t *testing.T) {
	for text, v := range map[string]api.Value{
		"a": name("a"), "True": name("True"), "0": num(0), "7": num(7), "-5": num(-5), "true": boolean(1), "false": boolean(0),
		"1000001": num(1000001), "-1000001": num(-1000001),
		"9223372036854775807": num(math.MaxInt64), "-9223372036854775808": num(math.MinInt64),
	} {
		wantProcess(t, "a!<"+text+">.stop", send("a", v, stop))
		wantProcess(t, "X<"+text+">", call("X", v))
		wantProcess(t, "X<b, "+text+", 1>", call("X", name("b"), v, num(1)))
	}
}

func TestProcessesOfEachKind(t *testing.T) {
	wantProcess(t, "stop", stop)
	wantProcess(t, "a!<b>.stop", send("a", name("b"), stop))
	wantProcess(t, "a?(x).stop", recv("a", "x", stop))
	wantProcess(t, "a?(a).stop", recv("a", "a", stop))
	wantProcess(t, "a.l.stop", sel("a", "l", stop))
	wantProcess(t, "a.a.X<>", sel("a", "a", call("X")))
	wantProcess(t, "a&{l: stop}", branch("a", "l", stop))
	wantProcess(t, "a&{m: X<>, l: stop, k: b.m.stop}", branch("a", "m l k", call("X"), stop, sel("b", "m", stop)))
	wantProcess(t, "a&{l: stop, l: stop}", branch("a", "l l", stop, stop))
	wantProcess(t, "new (a, b: end) stop", scope("a", "b", tend, stop))
	wantProcess(t, "new (a, a: t) stop", scope("a", "a", tvar("t", 0), stop))
	wantProcess(t, "new (b, a: !3 int.end) new (c, d: (end)) X<>", scope("b", "a", exchange(api.TSend, 3, tint, tend), scope("c", "d", tend, call("X"))))
	wantProcess(t, "stop | stop", par(stop, stop))
	wantProcess(t, "X<>", call("X"))
	wantProcess(t, "X<a>", call("X", name("a")))
	wantProcess(t, "X<a, a, -1>", call("X", name("a"), name("a"), num(-1)))
	wantProcess(t, "a!<1>.b.go.stop | X<>", par(send("a", num(1), sel("b", "go", stop)), call("X")))
}

func TestTheRestOfAProcessIsASingleOne(t *testing.T) {
	two, x := par(stop, call("Y")), call("X")
	for text, prefixed := range map[string]func(api.Proc) api.Proc{
		"a!<1>.":          func(p api.Proc) api.Proc { return send("a", num(1), p) },
		"a?(b).":          func(p api.Proc) api.Proc { return recv("a", "b", p) },
		"a.b.":            func(p api.Proc) api.Proc { return sel("a", "b", p) },
		"new (a, b: end)": func(p api.Proc) api.Proc { return scope("a", "b", tend, p) },
	} {
		wantProcess(t, text+"X<> | stop", par(prefixed(x), stop))
		wantProcess(t, text+"(X<> | stop)", prefixed(par(x, stop)))
		wantProcess(t, text+"(stop | Y<>) | X<>", par(prefixed(two), x))
		wantProcess(t, text+"((stop) | (Y<>))", prefixed(two))
		wantProcess(t, "X<> | "+text+"c.d.(stop | Y<>)", par(x, prefixed(sel("c", "d", two))))
	}
	wantProcess(t, "a&{b: stop | Y<>, c: (X<>)} | X<>", par(branch("a", "b c", two, x), x))
	wantProcess(t, "a&{b: (stop | Y<>) | X<>, c: a.b.stop | X<>}", branch("a", "b c", par(stop, call("Y"), x), par(sel("a", "b", stop), x)))
}

func TestCompositionsInCompositions(t *testing.T) {
	a, b, c, d := call("A"), call("B"), call("C"), call("D")
	for _, s := range []string{
		"A<> | B<> | C<> | D<>", "(A<> | B<> | C<> | D<>)", "(A<> | B<>) | C<> | D<>", "A<> | (B<> | C<>) | D<>", "A<> | B<> | (C<> | D<>)",
		"(A<> | B<>) | (C<> | D<>)", "((A<> | B<>) | C<>) | D<>", "A<> | (B<> | (C<> | D<>))", "(A<> | (B<> | C<>) | D<>)", "(A<>) | ((B<>) | (((C<> | D<>))))",
	} {
		wantProcess(t, s, par(a, b, c, d))
	}
	wantProcess(t, "A<> | (B<> | a.b.(C<> | (D<> | A<>)))", par(a, b, sel("a", "b", par(c, d, a))))
	wantProcess(t, "(a.b.(A<> | B<>) | C<>) | D<>", par(sel("a", "b", par(a, b)), c, d))
}

func TestAProcessInParenthesesIsTheProcess(t *testing.T) {
	wantProcess(t, "(stop)", stop)
	wantProcess(t, "(((a.b.((stop)))))", sel("a", "b", stop))
	wantProcess(t, "a&{b: (stop)}", branch("a", "b", stop))
}

// P4.1: the trees of programs.

func TestPrograms(t *testing.T) {
	wantProgram(t, "main = stop;", prog(stop))
	wantProgram(t, "main = stop | X<>;", prog(par(stop, call("X"))))
	wantProgram(t, "def X() = stop; main = X<>;", prog(call("X"), def("X", stop)))
	wantProgram(t, "def X(a: int) = stop; main = stop;", prog(stop, def("X", stop, param("a", tint))))
	wantProgram(t, "def X(a: bool, b: !2 int.end, a: (t+1)) = a!<b>.(stop | Y<a>); def Y(c: end) = c&{d: stop}; def X() = X<>; main = (new (a, b: end) X<a, b> | stop);",
		prog(par(scope("a", "b", tend, call("X", name("a"), name("b"))), stop),
			def("X", send("a", name("b"), par(stop, call("Y", name("a")))), param("a", tbool), param("b", exchange(api.TSend, 2, tint, tend)), param("a", tvar("t", 1))),
			def("Y", branch("c", "d", stop), param("c", tend)),
			def("X", call("X"))))
	wantProgram(t, "def Main(Def: end) = Stop<True>; main = Main<Int>;",
		prog(call("Main", name("Int")), def("Main", call("Stop", name("True")), param("Def", tend))))
}

// The trees need not be right: other layers tell what is wrong with them.
func TestTreesThatAreNotRight(t *testing.T) {
	wantProgram(t, "def X(a: t, a: +{b: end, b: u}) = c?(c).Y<>; def X() = X<>; main = new (a, a: rec t.t) a&{b: stop, b: stop};",
		prog(scope("a", "a", trec("t", tvar("t", 0)), branch("a", "b b", stop, stop)),
			def("X", recv("c", "c", call("Y")), param("a", tvar("t", 0)), param("a", choice(api.TSelect, 0, "b b", tend, tvar("u", 0)))),
			def("X", call("X"))))
}
