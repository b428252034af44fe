package program_test

import (
	"fmt"
	"math"
	"strings"
	"testing"

	"duologue/api"
	"duologue/program"
)

// P15.3, and the words and places of P15.4.

func TestWords(t *testing.T) {
	words := map[api.Errno]string{0: "ok", 1: "syntax", 2: "limit", 3: "shape", 4: "name", 5: "twice", 6: "arity", 7: "guard", 8: "type", 9: "label", 10: "linear", 11: "priority", 12: "argument"}
	for e := api.Errno(-300); e < 300; e++ {
		if got := program.Word(e); got != words[e] {
			t.Errorf("%d: got %q, want %q", e, got, words[e])
		}
	}
	for e, want := range map[api.Errno]string{
		api.OK: "ok", api.ErrSyntax: "syntax", api.ErrLimit: "limit", api.ErrShape: "shape", api.ErrName: "name", api.ErrTwice: "twice", api.ErrArity: "arity",
		api.ErrGuard: "guard", api.ErrType: "type", api.ErrLabel: "label", api.ErrLinear: "linear", api.ErrPriority: "priority", api.ErrArg: "argument",
	} {
		if got := program.Word(e); got != want {
			t.Errorf("%d: got %q, want %q", e, got, want)
		}
	}
}

func TestNoWords(t *testing.T) {
	for _, e := range []api.Errno{-1, -12, 13, 14, 16, 255, 256, 1 << 16, 1 << 32, 1<<32 + 4, math.MaxInt32, math.MaxInt64, math.MinInt64, math.MinInt64 + 3, -1 << 32} {
		if got := program.Word(e); got != "" {
			t.Errorf("%d: got %q", e, got)
		}
	}
}

func wantPlace(t *testing.T, p api.Program, at int, want string) {
	t.Helper()
	if got := program.Place(p, at); got != want {
		t.Errorf("%d of %d definitions: got %q, want %q", at, len(p.Defs), got, want)
	}
}

func TestPlaces(t *testing.T) {
	var text strings.Builder
	for n := range 30 {
		p := tree(t, text.String()+"main = stop;")
		for at := range n {
			wantPlace(t, p, at, fmt.Sprint("D", at*7))
		}
		wantPlace(t, p, n, "main")
		for _, at := range []int{n + 1, n + 2, n + 100, -1, -2, -n - 1, math.MaxInt, math.MinInt, 1 << 32, 1<<32 + 1, -1 << 32} {
			wantPlace(t, p, at, "")
		}
		fmt.Fprintf(&text, "def D%d() = stop; ", n*7)
	}
}

// Place is for all programs, also those with a fault.
func TestPlacesOfOtherPrograms(t *testing.T) {
	for at, want := range map[int]string{0: "main", 1: "", -1: ""} {
		wantPlace(t, api.Program{}, at, want)
		wantPlace(t, api.Program{Defs: []api.Def{}}, at, want)
	}
	spare := []api.Def{{Name: "X"}, {Name: ""}, {Name: "X"}, {Name: "main"}, {Name: "0 1"}, {Name: "spare"}}
	p := api.Program{Defs: spare[:5]}
	for at, want := range map[int]string{0: "X", 1: "", 2: "X", 3: "main", 4: "0 1", 5: "main", 6: "", 7: "", -1: ""} {
		wantPlace(t, p, at, want)
	}
}

// Each error at each place, with names of different lengths.
func TestVerdicts(t *testing.T) {
	defs := []string{"A", "Bee", "c", "_", "MAIN", "Def99", "type"}
	for err, process := range map[string]string{
		"name":     "new (a, b: end) a!<c>.stop",
		"twice":    "new (a, b: end) a?(b).stop",
		"arity":    "new (a, b: end) a!<1>.A<b>",
		"guard":    "A<>",
		"type":     "new (a, b: end) a!<1>.stop",
		"label":    "new (a, b: +{l: end}) (a.k.stop | b&{l: stop})",
		"linear":   "new (a, b: +{l: end}) stop",
		"priority": "new (a, b: +{l: end}) a.l.b&{l: stop}",
	} {
		for at := range len(defs) + 1 {
			text, place := "", "main"
			for i, name := range defs {
				body := "stop"
				if i == at {
					body, place = process, name
				}
				text += "def " + name + "() = " + body + "; "
			}
			main := "stop"
			if at == len(defs) {
				main = process
			}
			want := err + " in " + place
			if place == "main" && err == "guard" {
				want = "accepted"
			}
			if got := program.Verdict(text + "main = " + main + ";"); got != want {
				t.Errorf("%s at %d: got %q, want %q", err, at, got, want)
			}
		}
	}
}

// A fault of layer 3 has the place of its At, which is 0, wherever it is.
func TestVerdictsOfShapes(t *testing.T) {
	for _, process := range []string{"new (a, a: end) stop", "new (a, b: t) stop", "new (a, b: rec t.t) stop", "new (a, b: &{l: end, m: end, l: end}) stop", "new (a, b: end) a&{l: stop, l: stop}"} {
		for text, want := range map[string]string{
			"main = PROCESS;":                                    "shape in main",
			"def First() = PROCESS; main = stop;":                "shape in First",
			"def First() = stop; main = PROCESS;":                "shape in First",
			"def X() = stop; def Y() = PROCESS; main = PROCESS;": "shape in X",
			"def X() = Z<>; def X(a: end, a: end) = PROCESS; main = new (a, b: !int.end) stop;": "shape in X",
		} {
			if got := program.Verdict(strings.ReplaceAll(text, "PROCESS", process)); got != want {
				t.Errorf("%s with %s: got %q, want %q", text, process, got, want)
			}
		}
	}
}

// A limit of layer 6 is one of layer 4 already if a program has a text; its word and its place are those of trees.
func TestPlaceOfALimit(t *testing.T) {
	p := tree(t, "def First() = stop; def X() = stop; main = stop;")
	p.Main = api.Proc{Kind: api.PPar}
	for range api.MaxNodes {
		p.Main.Kids = append(p.Main.Kids, api.Proc{Kind: api.PStop})
	}
	for _, want := range []string{"limit in First", "limit in X", "limit in main"} {
		fault := program.Check(p)
		if got := program.Word(fault.Err) + " in " + program.Place(p, fault.At); got != want {
			t.Errorf("got %q, want %q", got, want)
		}
		if len(p.Defs) > 0 {
			p.Defs = p.Defs[1:]
		}
	}
}
