package scope_test

import (
	"fmt"
	"slices"
	"strings"
	"testing"

	"duologue/api"
	"duologue/parse"
	"duologue/scope"
	"duologue/show"
)

// P6.1: programs, and each error by itself

var stop = api.Proc{Kind: api.PStop}

// program parses the text of a program.
func program(t *testing.T, source string) api.Program {
	t.Helper()
	p, fault := parse.Program(source)
	if fault.Err != api.OK {
		t.Fatalf("%s: no program: %v", source, fault)
	}
	return p
}

// process parses the text of a process.
func process(t *testing.T, source string) api.Proc {
	t.Helper()
	p, fault := parse.Process(source)
	if fault.Err != api.OK {
		t.Fatalf("%s: no process: %v", source, fault)
	}
	return p
}

func short(s string) string {
	if len(s) > 500 {
		return s[:500] + ".."
	}
	return s
}

func wantFault(t *testing.T, p api.Program, err api.Errno, at int) {
	t.Helper()
	if got, want := scope.Check(p), (api.Fault{Err: err, At: at}); got != want {
		t.Errorf("%s: got %v, want %v", short(show.Program(p)), got, want)
	}
}

func wantCheck(t *testing.T, source string, err api.Errno, at int) {
	t.Helper()
	wantFault(t, program(t, source), err, at)
}

func wantRight(t *testing.T, sources ...string) {
	t.Helper()
	for _, source := range sources {
		wantCheck(t, source, api.OK, 0)
	}
}

// others are definitions with no, one and two parameters, for calls.
var others = []string{"def F() = stop;", "def G(n: int) = stop;", "def H(c: end, n: int) = stop;"}

// inDefinition returns the program in which the process, with the parameters a and b, is the body of the definition with the index i, up to 3.
func inDefinition(i int, process string) string {
	lines := slices.Insert(slices.Clone(others), i, fmt.Sprintf("def D(a: end, b: !int.end) = (%s);", process))
	return strings.Join(lines, "\n") + "\nmain = stop;"
}

// inMain returns the program, with 4 definitions, in which the process stands in Main, where a and b are endpoints.
func inMain(process string) string {
	return strings.Join(others, "\n") + fmt.Sprintf("\ndef D(a: end, b: !int.end) = stop;\nmain = new (a, b: end) (%s);", process)
}

// wantInDefinitions checks a process that has a and b in scope, in definitions.
func wantInDefinitions(t *testing.T, err api.Errno, processes ...string) {
	t.Helper()
	for _, s := range processes {
		for i := range 4 {
			if err == api.OK {
				wantRight(t, inDefinition(i, s))
			} else {
				wantCheck(t, inDefinition(i, s), err, i)
			}
		}
	}
}

// wantInMain does the same in Main.
func wantInMain(t *testing.T, err api.Errno, processes ...string) {
	t.Helper()
	for _, s := range processes {
		if err == api.OK {
			wantRight(t, inMain(s))
		} else {
			wantCheck(t, inMain(s), err, 4)
		}
	}
}

func wantEverywhere(t *testing.T, err api.Errno, processes ...string) {
	t.Helper()
	wantInDefinitions(t, err, processes...)
	wantInMain(t, err, processes...)
}

func TestExamplesOfTheDocument(t *testing.T) {
	wantCheck(t, "def X(a: end) = X<a>; main = stop;", api.ErrGuard, 0)
	wantCheck(t, "main = X<>;", api.ErrName, 0)
	wantRight(t, "main = new (a, b: !int.end) (a!<1>.stop | b?(x).stop);", "main = new (a, b: !1 int.end) new (c, d: !2 int.end) (a!<1>.c!<2>.stop | d?(y).b?(x).stop);",
		"def X(a: rec t.!int.t+1) = a!<1>.X<a>; main = stop;", "main = new (a, b: !int.end) (a!<true>.stop | b?(x).stop);")
}

func TestProgramsWithoutAFault(t *testing.T) {
	wantRight(t, "main = stop;", "main = stop | stop;", "def X() = stop; main = stop;", "def X() = stop; main = X<>;", "def X(n: int, b: bool) = stop; def Y(a: end) = a?(x).X<x, true>; main = new (a, b: end) (Y<a> | Y<b> | X<1, false>);",
		"def X(a: ?int.end, b: &{l: end, m: end}) = a?(x).b&{l: stop, m: new (c, d: !int.end) (c!<x>.stop | d?(y).stop)}; main = stop;")
	wantFault(t, api.Program{Defs: []api.Def{}, Main: stop}, api.OK, 0)
	wantFault(t, api.Program{Defs: []api.Def{{Name: "X", Params: []api.Param{}, Body: stop}}, Main: api.Proc{Kind: api.PCall, Chan: "X", Args: []api.Value{}}}, api.OK, 0)
}

func TestProcessesWithoutAFault(t *testing.T) {
	wantEverywhere(t, api.OK, "stop", "stop | stop", "a!<b>.stop", "a!<a>.stop", "a!<-7>.b!<true>.stop", "a?(x).stop", "a?(x).x!<x>.a?(y).y?(z).stop", "a.l.b.m.stop", "a.a.b.b.stop", "a&{l: stop, m: b.n.stop}", "a&{a: stop, b: stop}",
		"new (c, d: end) stop", "new (c, d: !int.end) (c!<a>.stop | d?(x).b!<x>.stop)", "a!<1>.F<>", "b.l.(G<a> | H<a, b> | H<1, true>)", "a?(x).H<x, x>")
	// Names of definitions, of labels and of types are no names in scope.
	wantEverywhere(t, api.OK, "a?(F).b?(G).F!<G>.F<>", "new (D, H: end) D!<H>.G<D>", "a.c.stop", "b&{c: stop, x: stop}", "new (c, d: rec a.!a.a) stop", "a?(l).a.l.stop")
}

// P6.1, 1: the fault of layer 3.

// Each program has names that are wrong in each way, besides.
const wrong = "def X(a: end, a: end) = c!<d>.stop; def X(a: end) = a?(a).Z<>; def Y() = Y<1>; main = X<y>;"

func TestFaultsOfShape(t *testing.T) {
	for _, source := range []string{"main = stop;", "def X(a: end) = a?(x).stop; def Y(b: int) = stop; main = new (a, b: end) (X<a> | Y<b>);", wrong} {
		changes := []func(p *api.Program, d *api.Def){
			func(p *api.Program, d *api.Def) { d.Name = "" },
			func(p *api.Program, d *api.Def) { d.Name = "main" },
			func(p *api.Program, d *api.Def) { d.Name = "0+" },
			func(p *api.Program, d *api.Def) { d.Params[1].Name = "" },
			func(p *api.Program, d *api.Def) { d.Params[0].Name = "new" },
			func(p *api.Program, d *api.Def) { d.Params[1].T = api.Type{} },
			func(p *api.Program, d *api.Def) { d.Params[0].T = api.Type{Kind: api.TVar, Name: "t"} },
			func(p *api.Program, d *api.Def) { d.Body = api.Proc{} },
			func(p *api.Program, d *api.Def) { d.Body = api.Proc{Kind: api.PSend, Chan: "p"} },
			func(p *api.Program, d *api.Def) { d.Body.Kids[1].Chan = "9" },
			func(p *api.Program, d *api.Def) { d.Body.Kids[2].Args[0].N = 1 },
			func(p *api.Program, d *api.Def) { d.Body.Kids[0].Kids[0].Kind = api.PPar },
			func(p *api.Program, d *api.Def) { p.Main = api.Proc{} },
			func(p *api.Program, d *api.Def) { p.Main = api.Proc{Kind: api.PPar, Kids: []api.Proc{stop}} },
			func(p *api.Program, d *api.Def) { p.Main = api.Proc{Kind: api.PCall, Chan: "X", Var: "x"} },
		}
		for i, change := range changes {
			p := program(t, strings.Replace(source, "main", "def Last(p: end, q: int) = p!<1>.stop | q?(x).stop | Last<p, q>; main", 1))
			change(&p, &p.Defs[len(p.Defs)-1])
			if got := scope.Check(p); got != (api.Fault{Err: api.ErrShape}) {
				t.Errorf("%s, change %d: got %v", source, i, got)
			}
		}
	}
}

func TestFaultsOfShapeOfAPNew(t *testing.T) {
	for _, source := range []string{"main = new (a, b: end) stop;", wrong + "main = new (a, b: end) stop;"} {
		for i, change := range []func(n *api.Proc){func(n *api.Proc) { n.Var = n.Chan }, func(n *api.Proc) { n.T.Kind = api.TInt }, func(n *api.Proc) { n.Args = []api.Value{{Kind: api.VInt}} }} {
			p := program(t, strings.Replace(source, "main = X<y>;", "", 1))
			change(&p.Main)
			if got := scope.Check(p); got != (api.Fault{Err: api.ErrShape}) {
				t.Errorf("%s, change %d: got %v", source, i, got)
			}
		}
	}
}

func TestFaultsOfLimits(t *testing.T) {
	deep := stop
	for range 100 {
		deep = api.Proc{Kind: api.PSelect, Chan: "a", Labels: []string{"l"}, Kids: []api.Proc{deep}}
	}
	wide := api.Proc{Kind: api.PPar, Kids: slices.Repeat([]api.Proc{stop}, api.MaxNodes)}
	for _, source := range []string{"main = stop;", wrong} {
		for _, large := range []api.Proc{deep, wide} {
			p := program(t, source)
			p.Main = large
			wantFault(t, p, api.ErrLimit, 0)
			p = program(t, source)
			p.Defs = append(p.Defs, api.Def{Name: "Large", Body: large})
			wantFault(t, p, api.ErrLimit, 0)
		}
		p := program(t, source)
		p.Defs = append(p.Defs, api.Def{Name: "Large", Body: stop, Params: []api.Param{{Name: "p", T: api.Type{Kind: api.TSelect, Kids: make([]api.Type, api.MaxNodes)}}}})
		wantFault(t, p, api.ErrLimit, 0)
		// Layer 3 finds the size before the shape.
		p.Defs[len(p.Defs)-1].Name, p.Main = "", api.Proc{}
		wantFault(t, p, api.ErrLimit, 0)
	}
}

// P6.1, 2: names that are there twice.

func TestDefinitionsWithTheSameName(t *testing.T) {
	wantCheck(t, "def X() = stop; def X() = stop; main = stop;", api.ErrTwice, 1)
	wantCheck(t, "def X() = stop; def Y() = stop; def X(a: end) = stop; main = X<>;", api.ErrTwice, 2)
	wantCheck(t, "def Y() = stop; def X() = stop; def X() = stop; def Y() = stop; main = stop;", api.ErrTwice, 2)
	wantCheck(t, "def X() = stop; def X() = stop; def X() = stop; main = stop;", api.ErrTwice, 1)
	wantRight(t, "def X() = stop; def x() = stop; def X1() = stop; def _X() = stop; def XX() = stop; main = stop;")
}

func TestParametersWithTheSameName(t *testing.T) {
	wantCheck(t, "def X(a: end, a: end) = stop; main = stop;", api.ErrTwice, 0)
	wantCheck(t, "def X(a: end, b: int, a: bool) = stop; main = stop;", api.ErrTwice, 0)
	wantCheck(t, "def W(a: end, b: end) = stop; def X(a: end, b: int, c: bool, b: int) = stop; def Y(a: end, a: end) = stop; main = stop;", api.ErrTwice, 1)
	wantRight(t, "def X(a: end, b: end, A: end, _: int) = stop; def Y(a: end, b: int) = stop; main = stop;", "def X(X: end, Y: int) = stop; def Y(X: end) = stop; main = stop;")
}

func TestTheFirstDefinitionWithANameThatIsThereTwice(t *testing.T) {
	wantCheck(t, "def X() = stop; def Y(a: end, a: end) = stop; def X() = stop; main = stop;", api.ErrTwice, 1)
	wantCheck(t, "def X() = stop; def X() = stop; def Y(a: end, a: end) = stop; main = stop;", api.ErrTwice, 1)
	wantCheck(t, "def X() = stop; def Y() = stop; def X(a: end, a: end) = stop; main = stop;", api.ErrTwice, 2)
}

func TestDefinitionsComeBeforeBodies(t *testing.T) {
	for _, bad := range []string{"c!<1>.stop", "a!<c>.stop", "a?(a).stop", "a!<1>.Z<>", "a!<1>.Y<>", "Y<a, 1>"} {
		wantCheck(t, "def Y(a: end, n: int) = "+bad+"; def Y() = stop; main = stop;", api.ErrTwice, 1)
		wantCheck(t, "def Y(a: end, n: int) = "+bad+"; def Z(b: end, b: end) = "+bad+"; main = c!<1>.stop;", api.ErrTwice, 1)
		wantCheck(t, "def X() = stop; def Y(a: end, n: int) = "+bad+"; def Z() = stop; def X() = stop; main = stop;", api.ErrTwice, 3)
	}
}

// P6.1, 3: errors of nodes.

func TestChannelsThatAreNotInScope(t *testing.T) {
	wantEverywhere(t, api.ErrName, "c!<1>.stop", "c?(x).stop", "c.l.stop", "c&{l: stop}", "c&{l: stop, m: stop}")
	for _, s := range []string{"a!<1>.", "a?(x).", "a.l.", "new (x, y: end) ", "stop | ", "a.l.(stop | stop) | "} {
		wantEverywhere(t, api.ErrName, s+"c!<1>.stop", s+"c?(z).stop", s+"c.l.stop", s+"c&{l: stop}")
	}
	wantEverywhere(t, api.ErrName, "a&{l: c!<1>.stop}", "a&{l: stop, m: c?(x).stop}", "A!<1>.stop", "D!<1>.stop", "F?(x).stop", "x?(x).stop", "a.l.l.m.stop", "b&{l: l.m.stop}")
}

func TestChannelsOfMainWithoutABinder(t *testing.T) {
	for _, s := range []string{"a!<1>.stop", "a?(x).stop", "a.l.stop", "a&{l: stop}", "F<> | n?(x).stop", "H<1, 1> | c.l.stop"} {
		wantCheck(t, "def F() = stop; def H(c: end, n: int) = stop; main = "+s+";", api.ErrName, 2)
		wantCheck(t, "main = "+strings.NewReplacer("F<> | ", "", "H<1, 1> | ", "").Replace(s)+";", api.ErrName, 0)
	}
}

func TestValuesThatAreNotInScope(t *testing.T) {
	wantEverywhere(t, api.ErrName, "a!<c>.stop", "a!<D>.stop", "a?(x).x!<y>.stop", "a!<1>.G<c>", "a.l.H<a, c>", "a.l.H<c, a>", "a.l.H<1, F>", "new (c, d: end) c!<e>.stop", "stop | b!<c>.stop")
	wantCheck(t, "def G(n: int) = stop; main = G<n>;", api.ErrName, 1)
	wantCheck(t, "def G(n: int, m: int) = stop; def X(a: end) = a.l.G<a, m>; main = stop;", api.ErrName, 1)
	wantEverywhere(t, api.OK, "a!<0>.stop", "a!<false>.stop", "a.l.G<-1>", "a.l.H<true, 2>")
}

// Values that are no names have an empty Name, which is not in scope.
func TestOtherValuesHaveNoName(t *testing.T) {
	for _, v := range []api.Value{{Kind: api.VInt}, {Kind: api.VInt, N: -1 << 63}, {Kind: api.VBool}, {Kind: api.VBool, N: 1}} {
		p := program(t, "def X(n: int) = stop; main = new (a, b: end) a!<1>.X<1>;")
		p.Main.Kids[0].Args[0], p.Main.Kids[0].Kids[0].Args[0] = v, v
		wantFault(t, p, api.OK, 0)
	}
}

func TestNamesThatAreBoundAgain(t *testing.T) {
	wantEverywhere(t, api.ErrTwice, "a?(a).stop", "a?(b).stop", "b?(a).stop", "new (a, c: end) stop", "new (c, a: end) stop", "new (a, b: end) stop", "new (b, a: end) stop", "new (c, b: end) stop",
		"a?(x).b?(x).stop", "a?(x).x?(x).stop", "a?(x).new (x, y: end) stop", "a?(x).new (y, x: end) stop", "new (c, d: end) new (d, e: end) stop", "new (c, d: end) new (e, c: end) stop", "new (c, d: end) a?(c).stop", "new (c, d: end) a?(d).stop")
	wantCheck(t, "def X(n: int) = stop; main = new (n, a: end) (X<n> | n?(a).stop);", api.ErrTwice, 1)
}

func TestCallsWithAnError(t *testing.T) {
	wantEverywhere(t, api.ErrName, "a!<1>.Z<>", "a!<1>.Z<a>", "a!<1>.f<>", "a!<1>.a<>", "a?(x).x<a>", "a.l.(F<> | new (Y, Z: end) Y<>)", "b.l.l<>")
	wantEverywhere(t, api.ErrArity, "a!<1>.F<1>", "a!<1>.F<a, b>", "a!<1>.G<>", "a!<1>.G<a, b>", "a.l.H<>", "a.l.H<1>", "a.l.H<a, b, 1>", "a.l.D<a>", "a?(x).D<a, b, x>")
	wantInDefinitions(t, api.ErrGuard, "F<>", "G<a>", "H<1, 1>", "D<a, b>", "D<b, a>")
	wantInMain(t, api.OK, "F<>", "G<a>", "H<1, 1>", "D<a, b>", "D<b, a>")
	wantCheck(t, "def X() = stop; main = Y<>;", api.ErrName, 1)
	wantCheck(t, "def X() = stop; main = stop | X<1>;", api.ErrArity, 1)
}
