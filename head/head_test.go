package head_test

import (
	"fmt"
	"math"
	"testing"

	"duologue/api"
	"duologue/graph"
	"duologue/head"
	"duologue/parse"
	"duologue/typetree"
)

// types parses the texts of right types.
func types(t *testing.T, sources ...string) []api.Type {
	t.Helper()
	var l []api.Type
	for _, s := range sources {
		a, fault := parse.Type(s)
		if fault.Err != api.OK || typetree.Right(a) != api.OK {
			t.Fatalf("%s: %v, and error %d", s, fault, typetree.Right(a))
		}
		l = append(l, a)
	}
	return l
}

// build returns the graph of the texts of right types, and their references.
func build(t *testing.T, sources ...string) (graph.Graph, []graph.Ref) {
	t.Helper()
	return graph.Build(types(t, sources...))
}

func ref(node, shift int) graph.Ref {
	return graph.Ref{Node: node, Shift: shift}
}

// everyKind has the nodes 0 !1, 1 int, 2 ?2, 3 bool, 4 +3, 5 end, 6 &4, 7 end and 8 end.
const everyKind = "!1 int.?2 bool.+3 {m: end, l: &4 {y: end, x: end}}"

// circles has the nodes 0 !1, 1 &2, 2 ?3 and 3 +4, and 4 end; most of their references Next have a Shift.
const circles = "rec t.!1 (t+10).&2 {a: t+20, b: rec u.?3 (u+100).+4 {l: t+30, m: u+200, n: end}}"

// shifts are those of references that the tests take.
var shifts = []int{0, 1, -1, 7, -50, 1000000, -1000000, math.MaxInt / 2, math.MinInt / 2}

// P8.1

func TestKind(t *testing.T) {
	g, _ := build(t, everyKind)
	want := []int{api.TSend, api.TInt, api.TRecv, api.TBool, api.TSelect, api.TEnd, api.TBranch, api.TEnd, api.TEnd}
	if len(g.Nodes) != len(want) {
		t.Fatalf("%d nodes", len(g.Nodes))
	}
	for n, kind := range want {
		for _, k := range shifts {
			if got := head.Kind(g, ref(n, k)); got != kind {
				t.Errorf("node %d, shift %d: got %d, want %d", n, k, got, kind)
			}
		}
	}
}

// The reference of a recursive type is that of its body, so that its Kind is never that of a TRec or a TVar.
func TestKindOfRecursiveTypes(t *testing.T) {
	g, refs := build(t, "rec t.?int.t+1", "rec t.rec u.end", "rec t.+{a: rec u.t+1}", "int")
	for i, kind := range []int{api.TRecv, api.TEnd, api.TSelect, api.TInt} {
		if got := head.Kind(g, refs[i]); got != kind {
			t.Errorf("type %d: got %d, want %d", i, got, kind)
		}
	}
}

func wantPrio(t *testing.T, g graph.Graph, r graph.Ref, want int, ok bool) {
	t.Helper()
	if got, found := head.Prio(g, r); got != want || found != ok {
		t.Errorf("%v: got %d and %v, want %d and %v", r, got, found, want, ok)
	}
}

func TestPrioOfActions(t *testing.T) {
	g, _ := build(t, everyKind)
	for n, prio := range map[int]int{0: 1, 2: 2, 4: 3, 6: 4} {
		for _, k := range shifts {
			wantPrio(t, g, ref(n, k), prio+k, true)
		}
	}
}

func TestPrioOfOtherNodes(t *testing.T) {
	g, _ := build(t, everyKind)
	for _, n := range []int{1, 3, 5, 7, 8} {
		for _, k := range shifts {
			wantPrio(t, g, ref(n, k), 0, false)
		}
	}
	g, refs := build(t, "rec t.end", "int", "bool")
	for _, r := range refs {
		wantPrio(t, g, r, 0, false)
	}
}

// A priority may be 0 or negative; the results differ from those without a priority.
func TestPrioIsAnyNumber(t *testing.T) {
	g, refs := build(t, "!int.end", "?5 int.end", "+1000000 {a: end}", "&{a: end}")
	wantPrio(t, g, refs[0], 0, true)
	wantPrio(t, g, head.Raise(refs[0], -3), -3, true)
	wantPrio(t, g, head.Raise(refs[1], -5), 0, true)
	wantPrio(t, g, head.Raise(refs[2], 1000000), 2000000, true)
	wantPrio(t, g, head.Raise(refs[2], math.MaxInt-1000000), math.MaxInt, true)
	wantPrio(t, g, head.Raise(refs[3], math.MinInt), math.MinInt, true)
	wantPrio(t, g, refs[3], 0, true)
}

// P8.2

func wantNext(t *testing.T, g graph.Graph, r graph.Ref, i int, want graph.Ref, ok bool) {
	t.Helper()
	if got, found := head.Next(g, r, i); got != want || found != ok {
		t.Errorf("%v, index %d: got %v and %v, want %v and %v", r, i, got, found, want, ok)
	}
}

// wantAllNext checks Next for each index, and for some beside them.
func wantAllNext(t *testing.T, g graph.Graph, r graph.Ref, want []graph.Ref) {
	t.Helper()
	for i, next := range want {
		wantNext(t, g, r, i, next, true)
	}
	n := len(want)
	for _, i := range []int{-1, -2, -n, -n - 1, -1 << 32, math.MinInt, n, n + 1, 2*n + 1, 1 << 32, math.MaxInt} {
		if i < 0 || i >= n {
			wantNext(t, g, r, i, graph.Ref{}, false)
		}
	}
}

func TestNextOfEachKind(t *testing.T) {
	g, _ := build(t, everyKind)
	next := [][]int{{1, 2}, nil, {3, 4}, nil, {5, 6}, nil, {7, 8}, nil, nil}
	for n := range g.Nodes {
		for _, k := range shifts {
			var want []graph.Ref
			for _, m := range next[n] {
				want = append(want, ref(m, k))
			}
			wantAllNext(t, g, ref(n, k), want)
		}
	}
}

func TestNextWithShifts(t *testing.T) {
	g, _ := build(t, circles)
	for _, k := range shifts {
		wantAllNext(t, g, ref(0, k), []graph.Ref{ref(0, 10+k), ref(1, k)})
		wantAllNext(t, g, ref(1, k), []graph.Ref{ref(0, 20+k), ref(2, k)})
		wantAllNext(t, g, ref(2, k), []graph.Ref{ref(2, 100+k), ref(3, k)})
		wantAllNext(t, g, ref(3, k), []graph.Ref{ref(0, 30+k), ref(2, 200+k), ref(4, k)})
		wantAllNext(t, g, ref(4, k), nil)
	}
}

// The references of the second type are behind those of the first one.
func TestNextInGraphsOfSeveralTypes(t *testing.T) {
	g, refs := build(t, "rec t.!int.t+1", "rec t.!bool.t+2", "&{a: end}")
	wantAllNext(t, g, refs[0], []graph.Ref{ref(1, 0), ref(0, 1)})
	wantAllNext(t, g, refs[1], []graph.Ref{ref(3, 0), ref(2, 2)})
	wantAllNext(t, g, refs[2], []graph.Ref{ref(5, 0)})
}

func wantLabel(t *testing.T, g graph.Graph, r graph.Ref, label string, want graph.Ref, ok bool) {
	t.Helper()
	if got, found := head.Label(g, r, label); got != want || found != ok {
		t.Errorf("%v, label %q: got %v and %v, want %v and %v", r, label, got, found, want, ok)
	}
}

func TestLabel(t *testing.T) {
	for _, sign := range []string{"+", "&"} {
		g, _ := build(t, "rec t."+sign+"5 {b: end, a: t+3, ab: !int.t+4, B: end}")
		for _, k := range shifts {
			wantLabel(t, g, ref(0, k), "b", ref(1, k), true)
			wantLabel(t, g, ref(0, k), "a", ref(0, 3+k), true)
			wantLabel(t, g, ref(0, k), "ab", ref(2, k), true)
			wantLabel(t, g, ref(0, k), "B", ref(4, k), true)
		}
	}
}

func TestLabelsThatTheNodeDoesNotHave(t *testing.T) {
	for _, sign := range []string{"+", "&"} {
		g, _ := build(t, "rec t."+sign+"5 {b: !int."+sign+"{other: t}, a: t+3, ab: end}")
		for _, label := range []string{"", "c", "A", "aba", "a ", " a", "a\x00", "ba", "0", "1", "t", "other", "\xff"} {
			for _, k := range shifts {
				wantLabel(t, g, ref(0, k), label, graph.Ref{}, false)
			}
		}
	}
}

func TestLabelOfNodesWithoutLabels(t *testing.T) {
	g, _ := build(t, everyKind)
	for _, n := range []int{0, 1, 2, 3, 5, 7, 8} {
		for _, label := range []string{"", "l", "m", "x", "y", "int", "end"} {
			wantLabel(t, g, ref(n, 2), label, graph.Ref{}, false)
		}
	}
}

func TestNodesWithOneLabel(t *testing.T) {
	g, _ := build(t, "+{only: &{one: end}}")
	wantLabel(t, g, ref(0, 1), "only", ref(1, 1), true)
	wantLabel(t, g, ref(0, 1), "one", graph.Ref{}, false)
	wantLabel(t, g, ref(1, 1), "one", ref(2, 1), true)
	wantLabel(t, g, ref(1, 1), "only", graph.Ref{}, false)
}

func wantLabels(t *testing.T, g graph.Graph, r graph.Ref, want ...string) {
	t.Helper()
	// The texts are quoted, so that no two lists look the same.
	if got := head.Labels(g, r); fmt.Sprintf("%q", got) != fmt.Sprintf("%q", want) {
		t.Errorf("%v: got %q, want %q", r, got, want)
	}
}

func TestLabelsAreSortedByBytes(t *testing.T) {
	for _, sign := range []string{"+", "&"} {
		g, refs := build(t,
			sign+"{b: end, a: end, c: end}",
			sign+"{a: end, b: end, c: end}",
			sign+"{c: end, b: end, a: end}",
			sign+"{b: end, B: end, a: end, A: end, _: end}",
			sign+"{abc: end, ab: end, a: end, abcd: end, b: end, aa: end}",
			sign+"{a10: end, a2: end, a1: end, a_: end, aB: end, ab: end, a: end}",
			sign+"{Zebra: end, apple: end, APPLE: end, apples: end, _x: end}",
			sign+"{only: end}",
			"rec t.rec u."+sign+"{y: t, x: u}")
		for _, k := range shifts {
			for i, want := range [][]string{
				{"a", "b", "c"},
				{"a", "b", "c"},
				{"a", "b", "c"},
				{"A", "B", "_", "a", "b"},
				{"a", "aa", "ab", "abc", "abcd", "b"},
				{"a", "a1", "a10", "a2", "aB", "a_", "ab"},
				{"APPLE", "Zebra", "_x", "apple", "apples"},
				{"only"},
				{"x", "y"},
			} {
				wantLabels(t, g, head.Raise(refs[i], k), want...)
			}
		}
	}
}

func TestLabelsOfNodesWithoutLabels(t *testing.T) {
	g, _ := build(t, everyKind)
	for _, n := range []int{0, 1, 2, 3, 5, 7, 8} {
		wantLabels(t, g, ref(n, 2))
	}
	wantLabels(t, g, ref(4, 2), "l", "m")
	wantLabels(t, g, ref(6, 2), "x", "y")
}

// P8.4

func wantAfter(t *testing.T, g graph.Graph, r graph.Ref, path []int, want graph.Ref, ok bool) {
	t.Helper()
	if got, found := head.After(g, r, path); got != want || found != ok {
		t.Errorf("%v, path %v: got %v and %v, want %v and %v", r, path, got, found, want, ok)
	}
}

func TestAfterTheEmptyPath(t *testing.T) {
	g, _ := build(t, everyKind)
	for n := range g.Nodes {
		for _, k := range shifts {
			wantAfter(t, g, ref(n, k), nil, ref(n, k), true)
			wantAfter(t, g, ref(n, k), []int{}, ref(n, k), true)
		}
	}
}

func TestExampleOfTheChapter(t *testing.T) {
	g, refs := build(t, "rec t.!1 int.t+2")
	wantPrio(t, g, refs[0], 1, true)
	wantAfter(t, g, refs[0], []int{1, 1}, ref(0, 4), true)
	r, _ := head.After(g, refs[0], []int{1, 1})
	wantPrio(t, g, r, 5, true)
}

func TestAfterPathsWithoutShifts(t *testing.T) {
	g, refs := build(t, everyKind)
	for _, k := range shifts {
		r := head.Raise(refs[0], k)
		wantAfter(t, g, r, []int{0}, ref(1, k), true)
		wantAfter(t, g, r, []int{1}, ref(2, k), true)
		wantAfter(t, g, r, []int{1, 0}, ref(3, k), true)
		wantAfter(t, g, r, []int{1, 1, 0}, ref(5, k), true)
		wantAfter(t, g, r, []int{1, 1, 1}, ref(6, k), true)
		wantAfter(t, g, r, []int{1, 1, 1, 1}, ref(8, k), true)
	}
}

func TestShiftsAddUpAlongAPath(t *testing.T) {
	g, refs := build(t, circles)
	for _, k := range shifts {
		r := head.Raise(refs[0], k)
		wantAfter(t, g, r, []int{0}, ref(0, k+10), true)
		wantAfter(t, g, r, []int{0, 0, 0}, ref(0, k+30), true)
		wantAfter(t, g, r, []int{1, 0, 1, 0, 0}, ref(0, k+50), true)
		wantAfter(t, g, r, []int{1, 1, 0, 0, 1}, ref(3, k+200), true)
		wantAfter(t, g, r, []int{1, 1, 1, 1, 1, 1, 0, 1}, ref(3, k+500), true)
		wantAfter(t, g, r, []int{1, 1, 1, 0, 0, 1, 0}, ref(0, k+60), true)
		wantAfter(t, g, r, []int{1, 1, 0, 1, 2}, ref(4, k+100), true)
	}
}

func TestPathsThatLeaveTheType(t *testing.T) {
	g, refs := build(t, circles)
	r := head.Raise(refs[0], 6)
	for _, path := range [][]int{
		{2}, {-1}, {math.MaxInt}, {math.MinInt},
		{2, 0, 0}, {-1, 0, 0}, {3, 1},
		{0, 2, 0}, {0, -1, 0}, {1, 2, 1}, {1, 1, 1, 3, 0}, {1, 1, 1, 2, 0, 1},
		{0, 0, 2}, {0, 0, -1}, {1, 1, 2}, {1, 1, 1, 3}, {1, 1, 1, -1}, {1, 1, 1, 2, 0}, {1, 1, 1, 2, -1},
	} {
		wantAfter(t, g, r, path, graph.Ref{}, false)
	}
	g, refs = build(t, "int", "bool", "end", "rec t.end")
	for _, r := range refs {
		wantAfter(t, g, r, nil, r, true)
		wantAfter(t, g, r, []int{0}, graph.Ref{}, false)
		wantAfter(t, g, r, []int{-1}, graph.Ref{}, false)
	}
}
