package scope_test

import (
	"fmt"
	"slices"
	"strings"
	"testing"

	"duologue/api"
	"duologue/scope"
	"duologue/show"
)

// P6.2

func wantFind(t *testing.T, p api.Program, name string, index int, found bool) {
	t.Helper()
	if i, ok := scope.Find(p, name); i != index || ok != found {
		t.Errorf("%q in %s: got %d and %v, want %d and %v", name, show.Program(p), i, ok, index, found)
	}
}

// wantNames takes the names of calls and of binders as texts with blanks.
func wantNames(t *testing.T, p api.Proc, calls, binders string) {
	t.Helper()
	if got := scope.Calls(p); !slices.Equal(got, strings.Fields(calls)) {
		t.Errorf("%s: got the calls %q, want %q", short(show.Process(p)), got, calls)
	}
	if got := scope.Binders(p); !slices.Equal(got, strings.Fields(binders)) {
		t.Errorf("%s: got the binders %q, want %q", short(show.Process(p)), got, binders)
	}
}

func TestFind(t *testing.T) {
	p := program(t, "def X(Z: end) = Z?(V).W<>; def Y() = stop; def x() = stop; def XX() = stop; main = new (U, T: end) S<>;")
	for i, name := range []string{"X", "Y", "x", "XX"} {
		wantFind(t, p, name, i, true)
	}
	for _, name := range []string{"", "Z", "V", "W", "U", "S", "y", "XY", "XXX", "X ", " X", "main", "Main", "0"} {
		wantFind(t, p, name, 0, false)
	}
	for _, name := range []string{"", "X", "main"} {
		wantFind(t, program(t, "main = X<>;"), name, 0, false)
		wantFind(t, api.Program{}, name, 0, false)
	}
}

func TestFindTheFirstOfSeveral(t *testing.T) {
	p := program(t, "def Y() = stop; def X(a: end) = stop; def X() = stop; def Y(a: int) = stop; def Z() = stop; def X() = stop; def Z() = stop; main = stop;")
	for name, i := range map[string]int{"Y": 0, "X": 1, "Z": 4} {
		wantFind(t, p, name, i, true)
	}
}

// Find is for programs of any form, and their names are any texts.
func TestFindInProgramsThatAreNotRight(t *testing.T) {
	p := api.Program{Defs: []api.Def{{Name: "main"}, {}, {Name: "a b"}, {Name: "\xff"}, {Name: "0+"}, {}, {Name: "\xff"}}, Main: api.Proc{Kind: -1}}
	for name, i := range map[string]int{"main": 0, "": 1, "a b": 2, "\xff": 3, "0+": 4} {
		wantFind(t, p, name, i, true)
	}
	wantFind(t, p, "\xfe", 0, false)
	var defs []api.Def
	for i := range 5000 {
		defs = append(defs, api.Def{Name: fmt.Sprint("X", i), Body: stop})
	}
	for i := range defs {
		wantFind(t, api.Program{Defs: defs, Main: stop}, fmt.Sprint("X", i), i, true)
	}
}

func TestCallsAndBindersOfEachKind(t *testing.T) {
	for _, c := range []struct{ process, calls, binders string }{
		{"stop", "", ""}, {"a!<b>.stop", "", ""}, {"a?(x).stop", "", "x"}, {"a.l.stop", "", ""}, {"a&{l: stop, m: stop}", "", ""}, {"new (a, b: end) stop", "", "a b"}, {"stop | stop", "", ""}, {"X<>", "X", ""}, {"X<a, 1, b>", "X", ""},
		{"a!<b>.X<>", "X", ""}, {"a?(x).X<x>", "X", "x"}, {"a.l.X<>", "X", ""}, {"a&{l: X<>, m: Y<>}", "X Y", ""}, {"new (b, a: end) X<>", "X", "b a"}, {"X<> | Y<> | Z<>", "X Y Z", ""},
		{"a!<b>.c?(x).stop", "", "x"}, {"a?(x).x?(y).stop", "", "x y"}, {"a.l.a?(x).stop", "", "x"}, {"a&{l: a?(x).stop, m: a?(y).stop}", "", "x y"}, {"new (b, a: end) new (d, c: end) stop", "", "b a d c"}, {"a?(z).stop | new (y, x: end) stop | a?(w).stop", "", "z y x w"},
	} {
		wantNames(t, process(t, c.process), c.calls, c.binders)
	}
}

func TestCallsAndBindersComeInTheOrderOfTheNodes(t *testing.T) {
	for _, c := range []struct{ process, calls, binders string }{
		{"Y<> | a?(z).(X<> | new (d, c: end) W<>) | b?(a).V<>", "Y X W V", "z d c a"},
		{"a&{m: a&{q: Z<>, p: b?(y).Y<>}, l: b?(x).X<>}", "Z Y X", "y x"},
		{"new (b, a: end) (b?(d).(new (y, x: end) stop | B<>) | a?(c).A<>)", "B A", "b a d y x c"},
		{"a?(x).b&{l: X<>, m: new (c, d: end) (c?(y).Y<> | d!<x>.Z<>)} | X<>", "X Y Z X", "x c d y"},
	} {
		wantNames(t, process(t, c.process), c.calls, c.binders)
	}
}

// Each name is there as often as it occurs, whether it is right or not.
func TestCallsAndBindersThatOccurOften(t *testing.T) {
	wantNames(t, process(t, "X<> | X<1> | a?(x).X<x> | a?(x).x?(x).Y<> | new (x, a: end) X<>"), "X X X Y X", "x x x x a")
	wantNames(t, process(t, "new (a, b: end) new (a, b: end) (Z<> | Z<>)"), "Z Z", "a b a b")
	// The names of channels, values, labels and types are others.
	wantNames(t, process(t, "Z!<Y>.W.V.U&{T: new (a, b: rec S.!(S).S) X<R, Q>}"), "X", "a b")
}

// Calls and Binders are for processes of any form.
func TestCallsAndBindersOfProcessesThatAreNotRight(t *testing.T) {
	wantNames(t, api.Proc{}, "", "")
	for kind := -1; kind < 11; kind++ {
		calls, binders := "D D", "e f c e"
		switch kind {
		case api.PRecv:
			binders = "b " + binders
		case api.PNew:
			binders = "a b " + binders
		case api.PCall:
			calls = "a " + calls
		}
		kids := []api.Proc{{Kind: api.PNew, Chan: "e", Var: "f"}, {Kind: api.PCall, Chan: "D", Var: "g", Kids: []api.Proc{{Kind: api.PRecv, Var: "c"}, {Kind: api.PCall, Chan: "D"}, {Kids: []api.Proc{{Kind: api.PRecv, Chan: "h", Var: "e"}}}}}}
		wantNames(t, api.Proc{Kind: kind, Chan: "a", Var: "b", Labels: []string{"l"}, Args: []api.Value{{Kind: api.VName, Name: "v"}}, Kids: kids}, calls, binders)
	}
	if got := scope.Calls(api.Proc{Kind: api.PCall}); !slices.Equal(got, []string{""}) {
		t.Errorf("got %q", got)
	}
	if got := scope.Binders(api.Proc{Kind: api.PNew, Var: "0-", Kids: []api.Proc{{Kind: api.PRecv}}}); !slices.Equal(got, []string{"", "0-", ""}) {
		t.Errorf("got %q", got)
	}
}
