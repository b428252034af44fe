package show_test

import (
	"strconv"
	"strings"
	"testing"

	"duologue/api"
	"duologue/parse"
	"duologue/proctree"
	"duologue/show"
	"duologue/typetree"
)

var (
	stop  = api.Proc{Kind: api.PStop}
	tint  = api.Type{Kind: api.TInt}
	tbool = api.Type{Kind: api.TBool}
	tend  = api.Type{Kind: api.TEnd}
)

// exchange is a TSend or a TRecv.
func exchange(kind, prio int, payload, rest api.Type) api.Type {
	return api.Type{Kind: kind, Prio: prio, Kids: []api.Type{payload, rest}}
}

func tsend(prio int, payload, rest api.Type) api.Type {
	return exchange(api.TSend, prio, payload, rest)
}

func trecv(prio int, payload, rest api.Type) api.Type {
	return exchange(api.TRecv, prio, payload, rest)
}

// choice is a TSelect or a TBranch; it takes its labels as one text with blanks.
func choice(kind, prio int, labels string, kids ...api.Type) api.Type {
	return api.Type{Kind: kind, Prio: prio, Labels: strings.Fields(labels), Kids: kids}
}

func tselect(prio int, labels string, kids ...api.Type) api.Type {
	return choice(api.TSelect, prio, labels, kids...)
}

func tbranch(prio int, labels string, kids ...api.Type) api.Type {
	return choice(api.TBranch, prio, labels, kids...)
}

func trec(name string, body api.Type) api.Type {
	return api.Type{Kind: api.TRec, Name: name, Kids: []api.Type{body}}
}

func tvar(name string, shift int) api.Type {
	return api.Type{Kind: api.TVar, Name: name, Shift: shift}
}

// name, num and boolean are values.
func name(s string) api.Value {
	return api.Value{Kind: api.VName, Name: s}
}

func num(n int64) api.Value {
	return api.Value{Kind: api.VInt, N: n}
}

func boolean(n int64) api.Value {
	return api.Value{Kind: api.VBool, N: n}
}

func send(c string, v api.Value, rest api.Proc) api.Proc {
	return api.Proc{Kind: api.PSend, Chan: c, Args: []api.Value{v}, Kids: []api.Proc{rest}}
}

func recv(c, x string, rest api.Proc) api.Proc {
	return api.Proc{Kind: api.PRecv, Chan: c, Var: x, Kids: []api.Proc{rest}}
}

func sel(c, label string, rest api.Proc) api.Proc {
	return api.Proc{Kind: api.PSelect, Chan: c, Labels: []string{label}, Kids: []api.Proc{rest}}
}

// branch takes its labels as one text with blanks.
func branch(c, labels string, kids ...api.Proc) api.Proc {
	return api.Proc{Kind: api.PBranch, Chan: c, Labels: strings.Fields(labels), Kids: kids}
}

func scope(c, d string, t api.Type, rest api.Proc) api.Proc {
	return api.Proc{Kind: api.PNew, Chan: c, Var: d, T: t, Kids: []api.Proc{rest}}
}

func par(kids ...api.Proc) api.Proc {
	return api.Proc{Kind: api.PPar, Kids: kids}
}

func call(c string, args ...api.Value) api.Proc {
	return api.Proc{Kind: api.PCall, Chan: c, Args: args}
}

func def(name string, body api.Proc, params ...api.Param) api.Def {
	return api.Def{Name: name, Params: params, Body: body}
}

func param(name string, t api.Type) api.Param {
	return api.Param{Name: name, T: t}
}

func prog(main api.Proc, defs ...api.Def) api.Program {
	return api.Program{Defs: defs, Main: main}
}

// short shortens a text for a message.
func short(s string) string {
	if len(s) <= 300 {
		return strconv.Quote(s)
	}
	return strconv.Quote(s[:300]) + ".. (" + strconv.Itoa(len(s)) + " bytes)"
}

func wantText(t *testing.T, got, want string) {
	t.Helper()
	if got != want {
		t.Errorf("got %s, want %s", short(got), short(want))
	}
}

// wantType wants a text of a type, and wants the type when the text is parsed again.
func wantType(t *testing.T, tree api.Type, want string) {
	t.Helper()
	got := show.Type(tree)
	wantText(t, got, want)
	if again, f := parse.Type(got); f != (api.Fault{}) || !typetree.Same(again, tree) {
		t.Errorf("%s is parsed to another tree, with fault %v", short(got), f)
	}
}

// wantProcess is like wantType; it wants the process in the line of a program, too.
func wantProcess(t *testing.T, tree api.Proc, want string) {
	t.Helper()
	got := show.Process(tree)
	wantText(t, got, want)
	if again, f := parse.Process(got); f != (api.Fault{}) || !proctree.Same(again, tree) {
		t.Errorf("%s is parsed to another tree, with fault %v", short(got), f)
	}
	wantProgram(t, prog(tree), "main = "+want+";\n")
	wantProgram(t, prog(stop, def("X", tree)), "def X() = "+want+";\nmain = stop;\n")
}

// wantProgram is like wantType; it wants the text to stay the same when it is tidied, too.
func wantProgram(t *testing.T, tree api.Program, want string) {
	t.Helper()
	got := show.Program(tree)
	wantText(t, got, want)
	if again, f := parse.Program(got); f != (api.Fault{}) || !proctree.SameProgram(again, tree) {
		t.Errorf("%s is parsed to another tree, with fault %v", short(got), f)
	}
	wantTidy(t, got, got)
}

// wantTidy wants a text as the one that is made by Tidy.
func wantTidy(t *testing.T, s, want string) {
	t.Helper()
	if got, f := show.Tidy(s); got != want || f != (api.Fault{}) {
		t.Errorf("%s: got %s and fault %v, want %s", short(s), short(got), f, short(want))
	}
}

// eachNumber calls f with priorities and shifts.
func eachNumber(f func(n int, digits string)) {
	for _, n := range []int{1, 2, 9, 10, 99, 100, 101, 12345, 999999, api.MaxPrio} {
		f(n, strconv.Itoa(n))
	}
}

// P5.1: types.

func TestTypesWithoutParts(t *testing.T) {
	wantType(t, tint, "int")
	wantType(t, tbool, "bool")
	wantType(t, tend, "end")
	wantType(t, tvar("t", 0), "t")
	wantType(t, tvar("t", 5), "t+5")
}

func TestExchanges(t *testing.T) {
	for sign, kind := range map[string]int{"!": api.TSend, "?": api.TRecv} {
		wantType(t, exchange(kind, 0, tint, tend), sign+"int.end")
		wantType(t, exchange(kind, 1, tint, tend), sign+"1 int.end")
		wantType(t, exchange(kind, api.MaxPrio, tbool, tend), sign+"1000000 bool.end")
		wantType(t, exchange(kind, 3, tvar("t", 4), tvar("u", 5)), sign+"3 t+4.u+5")
		wantType(t, exchange(kind, 2, tsend(3, tint, tend), trecv(4, tbool, tvar("t", 0))), sign+"2 (!3 int.end).?4 bool.t")
		wantType(t, exchange(kind, 0, exchange(kind, 0, exchange(kind, 0, tint, tend), tend), tend), sign+"("+sign+"("+sign+"int.end).end).end")
	}
}

// The payload is in parentheses, unless it is int, bool, end or a variable.
func TestPayloads(t *testing.T) {
	for _, x := range []struct {
		payload api.Type
		text    string
	}{
		{tint, "int"}, {tbool, "bool"}, {tend, "end"}, {tvar("t", 0), "t"}, {tvar("t", 1), "t+1"}, {tvar("t", api.MaxPrio), "t+1000000"},
		{tsend(0, tint, tend), "(!int.end)"}, {trecv(0, tint, tend), "(?int.end)"}, {tsend(7, tint, tend), "(!7 int.end)"}, {trecv(7, tend, tvar("t", 3)), "(?7 end.t+3)"},
		{tselect(0, "a", tend), "(+{a: end})"}, {tbranch(0, "a b", tend, tend), "(&{a: end, b: end})"}, {tselect(8, "a", tend), "(+8{a: end})"},
		{trec("t", tvar("t", 0)), "(rec t.t)"}, {trec("t", tend), "(rec t.end)"},
	} {
		wantType(t, tsend(0, x.payload, tend), "!"+x.text+".end")
		wantType(t, trecv(0, x.payload, tend), "?"+x.text+".end")
		wantType(t, tsend(6, x.payload, tend), "!6 "+x.text+".end")
		wantType(t, trecv(6, x.payload, tend), "?6 "+x.text+".end")
		wantType(t, trec("t", tselect(0, "a", tsend(0, x.payload, tvar("t", 0)))), "rec t.+{a: !"+x.text+".t}")
	}
}

// A rest, and the body of a TRec, are in no parentheses.
func TestRests(t *testing.T) {
	for _, x := range []struct {
		rest api.Type
		text string
	}{
		{tend, "end"}, {tvar("t", 0), "t"}, {tvar("t", 2), "t+2"}, {tsend(0, tint, tend), "!int.end"}, {trecv(3, tint, tend), "?3 int.end"},
		{tselect(0, "a", tend), "+{a: end}"}, {tbranch(4, "a b", tend, tvar("t", 0)), "&4{a: end, b: t}"}, {trec("u", tvar("u", 0)), "rec u.u"},
	} {
		wantType(t, tsend(0, tint, x.rest), "!int."+x.text)
		wantType(t, trecv(0, tint, x.rest), "?int."+x.text)
		wantType(t, tselect(0, "a", x.rest), "+{a: "+x.text+"}")
		wantType(t, tbranch(0, "b a", x.rest, x.rest), "&{b: "+x.text+", a: "+x.text+"}")
		wantType(t, trec("t", x.rest), "rec t."+x.text)
	}
}

func TestChoices(t *testing.T) {
	for sign, kind := range map[string]int{"+": api.TSelect, "&": api.TBranch} {
		wantType(t, choice(kind, 0, "a", tend), sign+"{a: end}")
		wantType(t, choice(kind, 1, "a", tend), sign+"1{a: end}")
		wantType(t, choice(kind, api.MaxPrio, "a", tend), sign+"1000000{a: end}")
		wantType(t, choice(kind, 7, "a b", tvar("t", 1), tend), sign+"7{a: t+1, b: end}")
		wantType(t, choice(kind, 0, "c b a", tend, tsend(0, tint, tend), tselect(0, "z", tvar("t", 0))), sign+"{c: end, b: !int.end, a: +{z: t}}")
		wantType(t, choice(kind, 0, "a", choice(kind, 0, "a", choice(kind, 0, "a", tend))), sign+"{a: "+sign+"{a: "+sign+"{a: end}}}")
		wantType(t, choice(kind, 0, "a1 a10 a2 B _", tend, tend, tend, tend, tend), sign+"{a1: end, a10: end, a2: end, B: end, _: end}")
	}
}

func TestRecursions(t *testing.T) {
	wantType(t, trec("t", tsend(0, tint, tvar("t", 1))), "rec t.!int.t+1")
	wantType(t, trec("t", trec("u", tsend(0, tvar("t", 2), tvar("u", 3)))), "rec t.rec u.!t+2.u+3")
	wantType(t, trec("t", tbranch(1, "a b", tvar("t", 0), trec("t", tsend(0, tint, tvar("t", 0))))), "rec t.&1{a: t, b: rec t.!int.t}")
}

// Types that are not closed or not contractive have texts, too.
func TestTypesThatAreNotBoundOrNotContractive(t *testing.T) {
	wantType(t, tvar("u", 1), "u+1")
	wantType(t, trec("t", tsend(0, tvar("v", 2), tvar("u", 0))), "rec t.!v+2.u")
	wantType(t, trec("t", tvar("t", 0)), "rec t.t")
	wantType(t, trec("t", tvar("t", 3)), "rec t.t+3")
	wantType(t, trec("t", trec("u", tvar("t", 0))), "rec t.rec u.t")
	wantType(t, trec("t", trec("t", tvar("u", 0))), "rec t.rec t.u")
	wantProcess(t, scope("a", "b", trec("t", tvar("t", 1)), stop), "new (a, b: rec t.t+1) stop")
	wantProcess(t, scope("a", "b", tvar("u", 0), stop), "new (a, b: u) stop")
	wantProgram(t, prog(stop, def("X", stop, param("a", tsend(0, tvar("u", 7), trec("t", tvar("t", 0)))))), "def X(a: !u+7.rec t.t) = stop;\nmain = stop;\n")
}

// A number is left out exactly if it is 0.
func TestNumbersOfTypes(t *testing.T) {
	eachNumber(func(n int, digits string) {
		wantType(t, tsend(n, tint, tend), "!"+digits+" int.end")
		wantType(t, trecv(n, tint, tend), "?"+digits+" int.end")
		wantType(t, tselect(n, "a", tend), "+"+digits+"{a: end}")
		wantType(t, tbranch(n, "a", tend), "&"+digits+"{a: end}")
		wantType(t, tvar("t", n), "t+"+digits)
		wantType(t, tsend(n, tsend(n, tend, tvar("t", n)), trecv(0, tvar("t", n), tend)), "!"+digits+" (!"+digits+" end.t+"+digits+").?t+"+digits+".end")
		wantProcess(t, scope("a", "b", tsend(n, tint, tvar("t", n)), stop), "new (a, b: !"+digits+" int.t+"+digits+") stop")
	})
	wantType(t, tsend(0, tselect(0, "a", tvar("t", 0)), tbranch(0, "a", trecv(0, tvar("t", 0), tend))), "!(+{a: t}).&{a: ?t.end}")
}

// The example of the chapter.
func TestTheExampleOfTheChapter(t *testing.T) {
	wantType(t, tsend(3, trecv(0, tint, tend), tselect(0, "a b", tend, trec("t", tsend(0, tvar("t", 1), tvar("t", 0))))), "!3 (?int.end).+{a: end, b: rec t.!t+1.t}")
}

// Names are shown as they are, whatever else they look like.
func TestNames(t *testing.T) {
	long := strings.Repeat("long_Name_9", 300)
	for _, s := range []string{"a", "Z", "_", "_0", "stops", "Stop", "end1", "a_b", "X9_", "INT", "r0", "recs", long} {
		wantType(t, tvar(s, 0), s)
		wantType(t, trec(s, tsend(0, tvar(s, 1), tend)), "rec "+s+".!"+s+"+1.end")
		wantType(t, tselect(0, s+" b2", tend, tend), "+{"+s+": end, b2: end}")
		wantProcess(t, send(s, name(s), stop), s+"!<"+s+">.stop")
		wantProcess(t, recv(s, s, stop), s+"?("+s+").stop")
		wantProcess(t, sel(s, s, stop), s+"."+s+".stop")
		wantProcess(t, branch(s, s, stop), s+"&{"+s+": stop}")
		wantProcess(t, scope(s, "b2", tend, stop), "new ("+s+", b2: end) stop")
		wantProcess(t, scope("b2", s, tend, stop), "new (b2, "+s+": end) stop")
		wantProcess(t, call(s, name(s)), s+"<"+s+">")
		wantProgram(t, prog(stop, def(s, stop, param(s, tint))), "def "+s+"("+s+": int) = stop;\nmain = stop;\n")
	}
}
