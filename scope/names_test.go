package scope_test

import (
	"testing"

	"duologue/api"
)

// P6.1: where names are in scope, and where calls are guarded

func TestNamesThatAreInScopeInOneKidOnly(t *testing.T) {
	wantEverywhere(t, api.ErrName, "a?(x).stop | x.l.stop", "x.l.stop | a?(x).stop", "a?(x).stop | stop | b!<x>.stop", "a&{l: a?(x).stop, m: x!<1>.stop}", "a&{l: x!<1>.stop, m: a?(x).stop}", "b&{l: a?(x).x.l.stop, m: b!<x>.stop}",
		"new (c, d: end) stop | c.l.stop", "new (c, d: end) stop | d.l.stop", "d?(x).stop | new (c, d: end) stop", "a&{l: new (c, d: end) c.l.stop, m: d.l.stop}", "a.l.(new (c, d: end) stop | G<c>)", "a.l.(G<d> | new (c, d: end) stop)",
		"a?(x).(b?(y).x!<y>.stop | x!<y>.stop)", "new (c, d: end) (c?(x).stop | d!<x>.stop)")
	wantEverywhere(t, api.OK, "a?(x).(x.l.stop | b!<x>.stop)", "a?(x).b&{l: x!<1>.stop, m: b!<x>.stop}", "new (c, d: end) (c.l.stop | d.l.stop | a!<c>.b!<d>.stop)", "new (c, d: end) a&{l: c.l.d.l.stop, m: d.l.c.l.stop}",
		"a?(x).(b?(y).x!<y>.stop | a?(z).x!<z>.stop)", "a?(x).(new (c, d: end) x!<c>.d!<x>.stop | x.l.stop)")
}

// A name is in scope below the node that binds it, and not at the node itself.
func TestNamesAreInScopeBelowTheirBinder(t *testing.T) {
	wantEverywhere(t, api.ErrName, "x?(x).stop", "x?(y).a?(x).stop", "b!<x>.a?(x).stop", "x.l.a?(x).stop", "a.l.c&{l: new (c, d: end) stop}")
	wantEverywhere(t, api.OK, "a?(x).x?(y).y?(z).z!<x>.z!<y>.b!<z>.stop", "new (c, d: end) c?(x).new (e, f: end) e!<x>.f!<d>.stop")
}

func TestNamesOfOneBodyOnly(t *testing.T) {
	wantCheck(t, "def X(a: end) = stop; def Y(b: end) = a.l.stop; main = stop;", api.ErrName, 1)
	wantCheck(t, "def X(a: end) = b.l.stop; def Y(b: end) = stop; main = stop;", api.ErrName, 0)
	wantCheck(t, "def X(a: end) = stop; main = a.l.stop;", api.ErrName, 1)
	wantCheck(t, "def X() = a.l.stop; main = new (a, b: end) stop;", api.ErrName, 0)
	wantCheck(t, "def X(a: end) = a?(x).stop; def Y(a: end) = a!<x>.stop; main = stop;", api.ErrName, 1)
	wantCheck(t, "def X(a: end) = new (c, d: end) stop; main = new (a, b: end) a!<c>.stop;", api.ErrName, 1)
	wantCheck(t, "def X(a: end) = a?(x).stop; main = new (a, b: end) (b?(y).stop | a!<x>.stop);", api.ErrName, 1)
}

func TestNamesThatAreBoundBesideEachOther(t *testing.T) {
	wantEverywhere(t, api.OK, "a?(x).stop | b?(x).stop", "a?(x).x.l.stop | a?(x).x.l.stop | b?(x).stop", "a&{l: a?(x).stop, m: b?(x).x.l.stop}", "new (c, d: end) c.l.stop | new (c, d: end) d.l.stop", "new (c, d: end) stop | new (d, c: end) stop",
		"new (c, d: end) stop | a?(c).stop | b?(d).stop", "a?(d).stop | new (c, d: end) stop", "a&{l: new (x, y: end) stop, m: a?(x).b?(y).stop}", "a?(x).(b?(y).stop | b?(y).stop)", "new (c, d: end) (new (e, f: end) e!<c>.stop | new (f, e: end) f!<d>.stop)",
		"a?(x).stop | new (c, d: end) c?(x).stop")
	wantRight(t, "def X(a: end, b: end) = a?(x).stop; def Y(b: end, a: int) = b?(x).stop; main = stop;", "def X(a: end) = a?(b).stop; def Y(b: end) = b?(a).stop; main = new (a, b: end) a?(x).X<b>;",
		"def X(a: end) = new (x, y: end) stop; def Y(x: int, y: bool) = stop; main = new (x, y: end) stop;")
}

func TestNamesThatAreBoundInsideEachOther(t *testing.T) {
	wantEverywhere(t, api.ErrTwice, "a?(x).b?(x).stop", "a?(x).b.l.(stop | a?(x).stop)", "a?(x).b&{l: stop, m: x?(x).stop}", "a?(x).new (x, y: end) stop", "a?(x).new (y, x: end) stop", "new (c, d: end) new (c, e: end) stop", "new (c, d: end) new (e, c: end) stop",
		"new (c, d: end) (stop | new (d, e: end) stop)", "new (c, d: end) a.l.new (e, d: end) stop", "new (c, d: end) c?(c).stop", "new (c, d: end) c?(d).stop", "a?(x).(b?(y).stop | b?(x).stop)", "a?(x).a?(y).a?(z).a?(x).stop", "a?(x).a?(y).a?(z).a?(z).stop",
		"a?(x).stop | b?(x).a?(x).stop", "a&{l: a?(x).stop, m: a?(x).b?(x).stop}", "a.l.a?(a).stop", "stop | a.l.(stop | b?(b).stop)", "a.l.new (b, c: end) stop", "a&{l: stop, m: new (c, a: end) stop}")
}

func TestCallsThatAreGuarded(t *testing.T) {
	for _, call := range []string{"F<>", "G<a>", "H<b, -1>", "D<a, b>", "D<b, b>"} {
		for _, prefix := range []string{"a!<1>.", "b?(x).", "a.l.", "b&{l: stop, m: ", "b&{m: "} {
			end := ""
			if prefix[1] == '&' {
				end = "}"
			}
			// By the node around it, by one further above, and beside processes that are not guarded.
			wantEverywhere(t, api.OK, prefix+call+end, prefix+"new (y, z: end) "+call+end, prefix+"(stop | "+call+")"+end, prefix+"(new (y, z: end) (stop | "+call+") | "+call+")"+end, prefix+"a.m.b!<a>."+call+end, "new (y, z: end) "+prefix+call+end, "stop | "+prefix+call+end)
		}
	}
}

func TestCallsThatAreNotGuarded(t *testing.T) {
	for _, call := range []string{"F<>", "G<a>", "H<b, -1>", "D<a, b>", "D<b, b>"} {
		processes := []string{call, "new (y, z: end) " + call, "stop | " + call, call + " | stop", "new (y, z: end) (stop | " + call + ")", "new (y, z: end) stop | new (y, z: end) new (u, v: end) " + call,
			// A prefix beside a call guards nothing, nor does one that ends before it.
			"a!<1>.stop | " + call, "a.l." + call + " | " + call, "b?(x).stop | stop | " + call, "b&{l: stop} | " + call, "a?(x)." + call + " | new (y, z: end) (y.l.stop | " + call + ")"}
		wantInDefinitions(t, api.ErrGuard, processes...)
		wantInMain(t, api.OK, processes...)
	}
}

func TestCallsOfLaterDefinitionsAndOfTheSame(t *testing.T) {
	wantRight(t, "def X(a: end) = a.l.Y<a>; def Y(a: end) = a.l.Z<a>; def Z(a: end) = a.l.X<a>; main = new (a, b: end) (X<a> | Z<b>);", "def X(a: end) = a.l.X<a>; main = stop;", "def X(a: end) = a.l.Y<1, a>; def Y(n: int, a: end) = a.l.X<a>; main = Y<1, 2>;")
	wantCheck(t, "def X(a: end) = a.l.Y<a>; def Y(n: int, a: end) = stop; main = stop;", api.ErrArity, 0)
	wantCheck(t, "def X(n: int, a: end) = stop; def Y(a: end) = a.l.X<a>; main = stop;", api.ErrArity, 1)
	wantCheck(t, "def X() = Y<>; def Y() = stop; main = stop;", api.ErrGuard, 0)
	wantCheck(t, "def Y() = stop; def X() = Y<>; main = stop;", api.ErrGuard, 1)
	wantCheck(t, "def X() = X<>; main = stop;", api.ErrGuard, 0)
	wantCheck(t, "def X(a: end) = a.l.X<a, a>; main = stop;", api.ErrArity, 0)
	// Main cannot be called, and a Word is no call of what is not there.
	wantCheck(t, "def X(a: end) = a.l.Main<>; main = stop;", api.ErrName, 0)
}
