package dual_test

import (
	"fmt"
	"math"
	"slices"
	"strings"
	"testing"

	"duologue/api"
	"duologue/dual"
	"duologue/graph"
	"duologue/parse"
	"duologue/typetree"
)

// types parses the texts of right types.
func types(t *testing.T, sources ...string) []api.Type {
	t.Helper()
	var l []api.Type
	for _, s := range sources {
		a, fault := parse.Type(s)
		if fault.Err != api.OK || typetree.Right(a) != api.OK {
			t.Fatalf("%s: %v, and error %d", s, fault, typetree.Right(a))
		}
		l = append(l, a)
	}
	return l
}

// build returns the graph of the texts of right types, and their references.
func build(t *testing.T, sources ...string) (graph.Graph, []graph.Ref) {
	t.Helper()
	return graph.Build(types(t, sources...))
}

func ref(node, shift int) graph.Ref {
	return graph.Ref{Node: node, Shift: shift}
}

// everyKind has the nodes 0 !1, 1 int, 2 ?2, 3 bool, 4 +3, 5 end, 6 &4, 7 end and 8 end.
const everyKind = "!1 int.?2 bool.+3 {m: end, l: &4 {y: end, x: end}}"

// circles has the nodes 0 !1, 1 &2, 2 ?3 and 3 +4, and 4 end; most of their references Next have a Shift.
const circles = "rec t.!1 (t+10).&2 {a: t+20, b: rec u.?3 (u+100).+4 {l: t+30, m: u+200, n: end}}"

// shifts are those of references that the tests take.
var shifts = []int{0, 1, -1, 7, -50, 1000000, -1000000, math.MaxInt, math.MinInt}

// signs are the Kinds in the texts of nodes.
var signs = []string{"none", "int", "bool", "end", "!", "?", "+", "&"}

// nodeText shows a node: "!3 1 0+2" has the Prio 3, and references to 1 without and to 0 with a Shift.
func nodeText(n graph.Node) string {
	s := fmt.Sprintf("kind %d with ", n.Kind)
	if n.Kind > 0 && n.Kind < len(signs) {
		s = signs[n.Kind]
	}
	if n.Kind >= api.TSend || n.Prio != 0 {
		s += fmt.Sprint(n.Prio)
	}
	parts := []string{s}
	if len(n.Labels) > 0 {
		parts = append(parts, fmt.Sprintf("%q", n.Labels))
	}
	for _, r := range n.Next {
		part := fmt.Sprint(r.Node)
		if r.Shift != 0 {
			part += fmt.Sprintf("%+d", r.Shift)
		}
		parts = append(parts, part)
	}
	return strings.Join(parts, " ")
}

// nodeTexts shows the nodes of a graph.
func nodeTexts(g graph.Graph) []string {
	var l []string
	for _, n := range g.Nodes {
		l = append(l, nodeText(n))
	}
	return l
}

// wantClose checks the nodes of the closed graph of the texts of types: those of the graph itself, and their duals.
func wantClose(t *testing.T, sources []string, same, duals []string) {
	t.Helper()
	g, _ := build(t, sources...)
	if got := nodeTexts(g); !slices.Equal(got, same) {
		t.Errorf("%q: the test is for the nodes\n%s, not\n%s", sources, strings.Join(same, "\n"), strings.Join(got, "\n"))
	}
	want := slices.Concat(same, duals)
	if got := nodeTexts(dual.Close(g)); !slices.Equal(got, want) {
		t.Errorf("%q: got the nodes\n%s, want\n%s", sources, strings.Join(got, "\n"), strings.Join(want, "\n"))
	}
}

// P9.1

func TestCloseOfTheEmptyGraph(t *testing.T) {
	built, _ := graph.Build(nil)
	for _, g := range []graph.Graph{{}, {Nodes: []graph.Node{}}, {Nodes: make([]graph.Node, 0, 4)}, built} {
		if got := dual.Close(g); len(got.Nodes) != 0 {
			t.Errorf("got %v", nodeTexts(got))
		}
	}
}

func TestCloseOfSingleNodes(t *testing.T) {
	wantClose(t, []string{"int"}, []string{"int"}, []string{"int"})
	wantClose(t, []string{"bool"}, []string{"bool"}, []string{"bool"})
	wantClose(t, []string{"end"}, []string{"end"}, []string{"end"})
	wantClose(t, []string{"rec t.end"}, []string{"end"}, []string{"end"})
}

func TestCloseOfEachKind(t *testing.T) {
	wantClose(t, []string{"!1 int.end"}, []string{"!1 1 2", "int", "end"}, []string{"?1 1 5", "int", "end"})
	wantClose(t, []string{"?2 bool.end"}, []string{"?2 1 2", "bool", "end"}, []string{"!2 1 5", "bool", "end"})
	wantClose(t, []string{"+3 {b: end, a: end}"},
		[]string{`+3 ["b" "a"] 1 2`, "end", "end"},
		[]string{`&3 ["b" "a"] 4 5`, "end", "end"})
	wantClose(t, []string{"&4 {b: end, a: end, c: end}"},
		[]string{`&4 ["b" "a" "c"] 1 2 3`, "end", "end", "end"},
		[]string{`+4 ["b" "a" "c"] 5 6 7`, "end", "end", "end"})
	wantClose(t, []string{everyKind},
		[]string{"!1 1 2", "int", "?2 3 4", "bool", `+3 ["m" "l"] 5 6`, "end", `&4 ["y" "x"] 7 8`, "end", "end"},
		[]string{"?1 1 11", "int", "!2 3 13", "bool", `&3 ["m" "l"] 14 15`, "end", `+4 ["y" "x"] 16 17`, "end", "end"})
}

func TestPrioritiesStay(t *testing.T) {
	wantClose(t, []string{"!int.?1000000 int.end"},
		[]string{"!0 1 2", "int", "?1000000 3 4", "int", "end"},
		[]string{"?0 1 7", "int", "!1000000 3 9", "int", "end"})
	wantClose(t, []string{"+{a: &1000000 {a: end}}"},
		[]string{`+0 ["a"] 1`, `&1000000 ["a"] 2`, "end"},
		[]string{`&0 ["a"] 4`, `+1000000 ["a"] 5`, "end"})
}

func TestExampleOfTheChapter(t *testing.T) {
	wantClose(t, []string{"rec t.!3 (?1 int.end).t+1"},
		[]string{"!3 1 0+1", "?1 2 3", "int", "end"},
		[]string{"?3 1 4+1", "!1 2 7", "int", "end"})
}

// A payload that is a session type stays as it is, with all that is in it; its own dual is behind it, too.
func TestPayloadsThatAreSessions(t *testing.T) {
	wantClose(t, []string{"!1 (!2 (!3 int.end).end).end"},
		[]string{"!1 1 6", "!2 2 5", "!3 3 4", "int", "end", "end", "end"},
		[]string{"?1 1 13", "?2 2 12", "?3 3 11", "int", "end", "end", "end"})
	wantClose(t, []string{"?1 (+2 {a: end, b: end}).&3 {a: end}"},
		[]string{"?1 1 4", `+2 ["a" "b"] 2 3`, "end", "end", `&3 ["a"] 5`, "end"},
		[]string{"!1 1 10", `&2 ["a" "b"] 8 9`, "end", "end", `+3 ["a"] 11`, "end"})
	wantClose(t, []string{"!(rec t.?int.t+2).end"},
		[]string{"!0 1 3", "?0 2 1+2", "int", "end"},
		[]string{"?0 1 7", "!0 2 5+2", "int", "end"})
}

func TestNodesThatReferToThemselves(t *testing.T) {
	wantClose(t, []string{"rec t.!int.t"}, []string{"!0 1 0", "int"}, []string{"?0 1 2", "int"})
	wantClose(t, []string{"rec t.!(t).end"}, []string{"!0 0 1", "end"}, []string{"?0 0 3", "end"})
	wantClose(t, []string{"rec t.?7 (t+5).t+6"}, []string{"?7 0+5 0+6"}, []string{"!7 0+5 1+6"})
	wantClose(t, []string{"rec t.!7 (t).t"}, []string{"!7 0 0"}, []string{"?7 0 1"})
	wantClose(t, []string{"rec t.+{a: t, b: t+3}"}, []string{`+0 ["a" "b"] 0 0+3`}, []string{`&0 ["a" "b"] 1 1+3`})
	wantClose(t, []string{"rec t.&1 {a: t+1000000}"}, []string{`&1 ["a"] 0+1000000`}, []string{`+1 ["a"] 1+1000000`})
}

func TestReferencesToNodesBeforeAndBehind(t *testing.T) {
	wantClose(t, []string{circles},
		[]string{"!1 0+10 1", `&2 ["a" "b"] 0+20 2`, "?3 2+100 3", `+4 ["l" "m" "n"] 0+30 2+200 4`, "end"},
		[]string{"?1 0+10 6", `+2 ["a" "b"] 5+20 7`, "!3 2+100 8", `&4 ["l" "m" "n"] 5+30 7+200 9`, "end"})
	wantClose(t, []string{"rec t.?1 (!2 (t+4).t+5).!3 (t).t+6"},
		[]string{"?1 1 2", "!2 0+4 0+5", "!3 0 0+6"},
		[]string{"!1 1 5", "?2 0+4 3+5", "?3 0 3+6"})
	wantClose(t, []string{"rec t.+{a: !int.rec u.&{b: u, c: t, d: end}}"},
		[]string{`+0 ["a"] 1`, "!0 2 3", "int", `&0 ["b" "c" "d"] 3 0 4`, "end"},
		[]string{`&0 ["a"] 6`, "?0 2 8", "int", `+0 ["b" "c" "d"] 8 5 9`, "end"})
}

func TestCloseOfSeveralTypes(t *testing.T) {
	wantClose(t, []string{"int", "end", "bool"}, []string{"int", "end", "bool"}, []string{"int", "end", "bool"})
	wantClose(t, []string{"rec t.!int.t+1", "bool", "&{a: end}", "rec t.!2 (t).t+3", "?4 bool.end"},
		[]string{"!0 1 0+1", "int", "bool", `&0 ["a"] 4`, "end", "!2 5 5+3", "?4 7 8", "bool", "end"},
		[]string{"?0 1 9+1", "int", "bool", `+0 ["a"] 13`, "end", "?2 5 14+3", "!4 7 17", "bool", "end"})
	wantClose(t, []string{"!int.end", "!int.end"},
		[]string{"!0 1 2", "int", "end", "!0 4 5", "int", "end"},
		[]string{"?0 1 8", "int", "end", "?0 4 11", "int", "end"})
}

// P9.2

func wantOf(t *testing.T, closed graph.Graph, r, want graph.Ref) {
	t.Helper()
	if got := dual.Of(closed, r); got != want {
		t.Errorf("%d nodes, %v: got %v, want %v", len(closed.Nodes), r, got, want)
	}
}

func TestOf(t *testing.T) {
	for _, x := range []struct {
		source string
		n      int
	}{{"int", 1}, {"end", 1}, {"rec t.!(t).t", 1}, {"rec t.!int.t+1", 2}, {"?int.end", 3}, {circles, 5}, {everyKind, 9}} {
		g, _ := build(t, x.source)
		closed := dual.Close(g)
		for _, k := range shifts {
			for i := range x.n {
				wantOf(t, closed, ref(i, k), ref(x.n+i, k))
				wantOf(t, closed, ref(x.n+i, k), ref(i, k))
			}
		}
	}
}

// The first and the last node of both halves of a graph of two types.
func TestOfAtTheEdges(t *testing.T) {
	g, refs := build(t, "rec t.!1 int.t+2", "&{a: end, b: end}")
	closed := dual.Close(g)
	wantOf(t, closed, ref(0, 0), ref(5, 0))
	wantOf(t, closed, ref(4, 0), ref(9, 0))
	wantOf(t, closed, ref(5, 0), ref(0, 0))
	wantOf(t, closed, ref(9, 0), ref(4, 0))
	wantOf(t, closed, ref(0, 3), ref(5, 3))
	wantOf(t, closed, ref(4, -3), ref(9, -3))
	wantOf(t, closed, ref(5, 1000000), ref(0, 1000000))
	wantOf(t, closed, ref(9, math.MinInt), ref(4, math.MinInt))
	wantOf(t, closed, refs[0], ref(5, 0))
	wantOf(t, closed, refs[1], ref(7, 0))
}

// P9.3

func TestKind(t *testing.T) {
	for kind, want := range map[int]int{
		api.TInt: api.TInt, api.TBool: api.TBool, api.TEnd: api.TEnd,
		api.TSend: api.TRecv, api.TRecv: api.TSend, api.TSelect: api.TBranch, api.TBranch: api.TSelect,
		api.TRec: api.TRec, api.TVar: api.TVar,
	} {
		if got := dual.Kind(kind); got != want {
			t.Errorf("Kind %d: got %d, want %d", kind, got, want)
		}
	}
}

func TestNumbersThatAreNotExchanged(t *testing.T) {
	numbers := []int{1 << 32, 1<<32 + 4, 1<<32 + 7, 1 << 62, math.MaxInt, math.MaxInt - 3, -1 << 32, 4 - 1<<32, math.MinInt, math.MinInt + 4, math.MinInt + 7}
	for n := -1000; n <= 1000; n++ {
		if n < api.TSend || n > api.TBranch {
			numbers = append(numbers, n)
		}
	}
	for _, n := range numbers {
		if got := dual.Kind(n); got != n {
			t.Errorf("number %d: got %d", n, got)
		}
	}
}

// P9.5

func TestDualOfTheDual(t *testing.T) {
	for _, sources := range [][]string{
		{"int"}, {"end"}, {everyKind}, {circles}, {"rec t.!3 (?1 int.end).t+1"}, {"rec t.!(t).t+1"},
		{"bool", "+{a: end}", circles, "rec t.rec u.&{a: t, b: u+1}", everyKind, "end"},
	} {
		g, _ := build(t, sources...)
		closed := dual.Close(g)
		for n := range closed.Nodes {
			for _, k := range shifts {
				r := dual.Of(closed, ref(n, k))
				if r == ref(n, k) {
					t.Errorf("%q: the node %d is its own dual", sources, n)
				}
				wantOf(t, closed, r, ref(n, k))
				if kind := closed.Nodes[r.Node].Kind; kind != dual.Kind(closed.Nodes[n].Kind) {
					t.Errorf("%q: the dual of the node %d has the Kind %d", sources, n, kind)
				}
			}
		}
	}
	for n := -20; n <= 20; n++ {
		if got := dual.Kind(dual.Kind(n)); got != n {
			t.Errorf("Kind %d: got %d", n, got)
		}
	}
}
