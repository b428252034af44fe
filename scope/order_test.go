package scope_test

import (
	"fmt"
	"strings"
	"testing"

	"duologue/api"
)

// P6.1: which error comes first

type processWithError struct {
	err  api.Errno
	text string
}

// outer are processes whose first node has the error, and that have other processes where the format says so.
var outer = []processWithError{
	{api.ErrName, "c!<1>.%s"}, {api.ErrName, "a!<c>.%s"}, {api.ErrName, "c?(x).%s"}, {api.ErrName, "c.l.%s"}, {api.ErrName, "c&{l: stop, m: %s}"},
	{api.ErrTwice, "b?(a).%s"}, {api.ErrTwice, "new (a, y: end) %s"}, {api.ErrTwice, "new (y, b: end) %s"},
}

// inner are processes with one error.
var inner = []processWithError{
	{api.ErrName, "c!<1>.stop"}, {api.ErrName, "a!<c>.stop"}, {api.ErrName, "c&{l: stop}"}, {api.ErrName, "Z<>"}, {api.ErrName, "F<c>"}, {api.ErrTwice, "b?(a).stop"}, {api.ErrTwice, "new (b, z: end) stop"}, {api.ErrArity, "F<1>"}, {api.ErrArity, "H<a>"},
}

func TestTwoErrorsAtANode(t *testing.T) {
	// The Chan of a prefix comes before its Args and its Var.
	wantEverywhere(t, api.ErrName, "c!<d>.stop", "c?(a).stop", "c?(b).stop")
	// The names in Args come before what is called.
	wantEverywhere(t, api.ErrName, "a.l.F<c>", "a.l.G<a, c>", "a.l.H<c>", "a.l.Z<c>", "F<c>", "G<c>", "H<1, c, 1>", "D<c, a>")
	// What is called comes before the number of Args, and this before the guard.
	wantEverywhere(t, api.ErrName, "Z<>", "Z<a, b>")
	wantEverywhere(t, api.ErrArity, "F<1>", "G<>", "H<a, b, a>", "D<>", "D<a>")
}

func TestANodeComesBeforeItsKids(t *testing.T) {
	for _, o := range outer {
		for _, i := range inner {
			for _, way := range []string{"%s", "(stop | %s)", "a.m.b.n.%s", "b&{n: stop, l: %s}", "new (p, q: end) %s"} {
				text := fmt.Sprintf(o.text, fmt.Sprintf(way, i.text))
				wantEverywhere(t, o.err, text, "a?(z1)."+text, "stop | "+text)
			}
		}
	}
}

func TestKidsComeInTheirOrder(t *testing.T) {
	for _, i := range inner {
		for _, j := range inner {
			for _, way := range []string{"%s | %s", "stop | a.l.stop | %s | %s", "a.n.(%s | stop | (F<> | %s))", "a&{l: %s, m: %s}", "b&{m: %s, k: stop, l: %s}", "a.l.(b.m.%s | %s)", "new (p, q: end) (a?(x).a?(y).%s | %s)", "b&{l: a&{l: stop, m: %s}, m: %s}"} {
				wantEverywhere(t, i.err, fmt.Sprintf(way, i.text, j.text))
			}
		}
	}
}

// The nodes below the first Kid come before the second one.
func TestDeepNodesComeBeforeLaterKids(t *testing.T) {
	deep := strings.Repeat("a.l.", 60)
	for _, i := range inner {
		for _, o := range outer {
			later := fmt.Sprintf(o.text, "stop")
			wantEverywhere(t, i.err, deep+i.text+" | "+later, "a&{l: "+deep+i.text+", m: "+later+"}", "a&{l: a&{l: stop, m: "+deep+i.text+"}, m: "+later+"}")
		}
	}
}

func TestTheFirstBodyWithAnError(t *testing.T) {
	for _, i := range inner {
		for _, j := range inner {
			first, second := "a.l."+i.text, "a.l."+j.text
			wantCheck(t, strings.Join(others, "")+"def X(a: end, b: end) = "+first+"; def Y(a: end, b: end) = "+second+"; main = stop;", i.err, 3)
			wantCheck(t, strings.Join(others, "")+"def X(a: end, b: end) = stop; def Y(a: end, b: end) = "+first+"; def Z2(a: end, b: end) = "+second+"; main = new (a, b: end) "+second+";", i.err, 4)
			wantCheck(t, "def X(a: end, b: end) = "+first+";"+strings.Join(others, "")+"main = new (a, b: end) "+second+";", i.err, 0)
			wantCheck(t, strings.Join(others, "")+"def X(a: end, b: end) = stop; main = new (a, b: end) ("+first+" | "+second+");", i.err, 4)
		}
	}
}

func TestAGuardIsAnErrorOfItsNode(t *testing.T) {
	for _, i := range inner {
		wantInDefinitions(t, api.ErrGuard, "F<> | "+i.text, "stop | G<a> | "+i.text, "new (x, y: end) (H<x, y> | "+i.text+")")
		wantInDefinitions(t, i.err, i.text+" | F<>", "a.l.F<> | "+i.text+" | F<>", "new (x, y: end) ("+i.text+" | H<x, y>)")
		wantInMain(t, i.err, "F<> | "+i.text, i.text+" | F<>")
		wantCheck(t, strings.Join(others, "")+"def X() = F<>; def Y(a: end, b: end) = "+i.text+"; main = F<>;", api.ErrGuard, 3)
		wantCheck(t, strings.Join(others, "")+"def X() = F<>; main = new (a, b: end) "+i.text+";", api.ErrGuard, 3)
	}
}
