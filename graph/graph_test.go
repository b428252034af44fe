package graph_test

import (
	"fmt"
	"slices"
	"strings"
	"testing"

	"duologue/api"
	"duologue/graph"
	"duologue/parse"
	"duologue/show"
	"duologue/typetree"
)

// P7.1

// types parses the texts of right types.
func types(t *testing.T, sources ...string) []api.Type {
	t.Helper()
	var l []api.Type
	for _, s := range sources {
		a, fault := parse.Type(s)
		if fault.Err != api.OK || typetree.Right(a) != api.OK {
			t.Fatalf("%s: %v, and error %d", s, fault, typetree.Right(a))
		}
		l = append(l, a)
	}
	return l
}

func refText(r graph.Ref) string {
	if r.Shift == 0 {
		return fmt.Sprint(r.Node)
	}
	return fmt.Sprintf("%d+%d", r.Node, r.Shift)
}

func refTexts(l []graph.Ref) []string {
	s := []string{}
	for _, r := range l {
		s = append(s, refText(r))
	}
	return s
}

// nodeText shows all fields of a node: its sign with its Prio, and its references after their labels.
func nodeText(n graph.Node) string {
	sign, ok := map[int]string{api.TInt: "int", api.TBool: "bool", api.TEnd: "end", api.TSend: "!", api.TRecv: "?", api.TSelect: "+", api.TBranch: "&"}[n.Kind]
	if !ok {
		sign = fmt.Sprintf("Kind %d ", n.Kind)
	}
	if n.Prio != 0 || len(sign) == 1 {
		sign += fmt.Sprint(n.Prio)
	}
	parts := []string{sign}
	for i := range max(len(n.Labels), len(n.Next)) {
		part := ""
		if i < len(n.Labels) {
			part = n.Labels[i] + ":"
		}
		if i < len(n.Next) {
			part += refText(n.Next[i])
		}
		parts = append(parts, part)
	}
	return strings.Join(parts, " ")
}

func graphText(g graph.Graph) string {
	s := []string{}
	for _, n := range g.Nodes {
		s = append(s, nodeText(n))
	}
	return strings.Join(s, ", ")
}

// short cuts a text for a message.
func short(s string) string {
	return s[:min(len(s), 300)]
}

func typeTexts(l []api.Type) string {
	s := []string{}
	for _, a := range l {
		s = append(s, show.Type(a))
	}
	return short(strings.Join(s, " and "))
}

// wantGraph takes the nodes with commas, and the references with blanks.
func wantGraph(t *testing.T, l []api.Type, nodes, refs string) {
	t.Helper()
	g, r := graph.Build(l)
	if got := graphText(g); got != nodes {
		t.Errorf("%s: got the nodes %s, want %s", typeTexts(l), short(got), short(nodes))
	}
	if got := strings.Join(refTexts(r), " "); got != refs {
		t.Errorf("%s: got the references %s, want %s", typeTexts(l), short(got), short(refs))
	}
}

// wantOne checks the graph of one type.
func wantOne(t *testing.T, source, nodes, ref string) {
	t.Helper()
	wantGraph(t, types(t, source), nodes, ref)
}

func TestTypesOfEachKind(t *testing.T) {
	wantOne(t, "int", "int", "0")
	wantOne(t, "bool", "bool", "0")
	wantOne(t, "end", "end", "0")
	wantOne(t, "!int.end", "!0 1 2, int, end", "0")
	wantOne(t, "?3 bool.end", "?3 1 2, bool, end", "0")
	wantOne(t, "+4 {l: end}", "+4 l:1, end", "0")
	wantOne(t, "&{m: end, l: end}", "&0 m:1 l:2, end, end", "0")
	wantOne(t, "rec t.end", "end", "0")
	wantOne(t, "rec t.!int.t", "!0 1 0, int", "0")
	wantOne(t, "!1000000 (?1 end.end).end", "!1000000 1 4, ?1 2 3, end, end, end", "0")
}

// Each node is before its Kids, and these are in order.
func TestOrderOfNodes(t *testing.T) {
	wantOne(t, "!1 (?2 int.!3 bool.end).+4 {b: ?5 int.end, a: end, c: &6 {x: end}}",
		"!1 1 6, ?2 2 3, int, !3 4 5, bool, end, +4 b:7 a:10 c:11, ?5 8 9, int, end, end, &6 x:12, end", "0")
	wantOne(t, "?1 (!2 (?3 (!4 end.end).end).end).?5 bool.?6 int.end",
		"?1 1 8, !2 2 7, ?3 3 6, !4 4 5, end, end, end, end, ?5 9 10, bool, ?6 11 12, int, end", "0")
	wantOne(t, "&1 {z: &2 {y: &3 {x: end, w: !4 int.end}, v: ?5 bool.end}, u: end}",
		"&1 z:1 u:10, &2 y:2 v:7, &3 x:3 w:4, end, !4 5 6, int, end, ?5 8 9, bool, end, end", "0")
}

func TestLabelsStayInOrder(t *testing.T) {
	wantOne(t, "+{b: end, B: end, _: end, a10: end, a2: end}", "+0 b:1 B:2 _:3 a10:4 a2:5, end, end, end, end, end", "0")
	wantOne(t, "rec t.&9 {z: t, y: end, x: t+5, w: t}", "&9 z:0 y:1 x:0+5 w:0, end", "0")
}

// A TRec becomes no node; its reference is that of its body.
func TestRecursiveTypes(t *testing.T) {
	wantOne(t, "rec t.!0 int.t+2", "!0 1 0+2, int", "0")
	wantOne(t, "rec t.+{l: t+1, m: ?1 int.t+1000000}", "+0 l:0+1 m:1, ?1 2 0+1000000, int", "0")
	wantOne(t, "!7 bool.rec t.?8 int.t+9", "!7 1 2, bool, ?8 3 2+9, int", "0")
	wantOne(t, "!int.rec t.end", "!0 1 2, int, end", "0")
	wantOne(t, "&{a: rec t.!int.t, b: rec t.?int.t+1, c: end}", "&0 a:1 b:3 c:5, !0 2 1, int, ?0 4 3+1, int, end", "0")
}

func TestRecsDirectlyInsideEachOther(t *testing.T) {
	wantOne(t, "rec t.rec u.rec v.end", "end", "0")
	wantOne(t, "rec t.rec u.&{a: t+1, b: u+2}", "&0 a:0+1 b:0+2", "0")
	wantOne(t, "rec t.rec u.rec v.&{a: v, b: t, c: ?int.u+3}", "&0 a:0 b:0 c:1, ?0 2 0+3, int", "0")
	wantOne(t, "rec t.rec t.rec t.!int.t+4", "!0 1 0+4, int", "0")
	wantOne(t, "!int.rec t.rec u.?bool.!(u+1).t", "!0 1 2, int, ?0 3 4, bool, !0 2+1 2", "0")
}

func TestVariablesOfTypesAround(t *testing.T) {
	wantOne(t, "rec t.!1 int.rec u.?2 bool.&3 {a: t+4, b: u+5, c: t, d: u}",
		"!1 1 2, int, ?2 3 4, bool, &3 a:0+4 b:2+5 c:0 d:2", "0")
	wantOne(t, "!int.rec t.!1 int.rec u.!2 int.rec v.!3 int.&{c: v+3, b: u+2, a: t+1}",
		"!0 1 2, int, !1 3 4, int, !2 5 6, int, !3 7 8, int, &0 c:6+3 b:4+2 a:2+1", "0")
}

// A TRec whose body is a variable has the reference of the variable.
func TestVariablesAsFirstNodes(t *testing.T) {
	wantOne(t, "rec t.!int.rec u.t", "!0 1 0, int", "0")
	wantOne(t, "rec t.!int.rec u.t+7", "!0 1 0+7, int", "0")
	wantOne(t, "rec t.!int.rec u.rec v.t+7", "!0 1 0+7, int", "0")
	wantOne(t, "rec t.&1 {a: rec u.t+1, b: rec u.?2 (rec v.u+2).rec v.t+3, c: rec t.end, d: t+4}",
		"&1 a:0+1 b:1 c:2 d:0+4, ?2 1+2 0+3, end", "0")
	wantOne(t, "!int.rec t.+{a: rec u.t+1, b: rec u.!int.u+2}", "!0 1 2, int, +0 a:2+1 b:3, !0 4 3+2, int", "0")
}

// Each reference has the Shift of its own variable only: shifts add up along a path, not in the graph.
func TestShiftsOfSeveralVariables(t *testing.T) {
	wantOne(t, "rec t.!int.rec u.+{a: t+1, b: u+10, c: rec v.?(v+100).&{x: t+2, y: u+20, z: v+200}}",
		"!0 1 2, int, +0 a:0+1 b:2+10 c:3, ?0 3+100 4, &0 x:0+2 y:2+20 z:3+200", "0")
}

func TestVariablesInPayloads(t *testing.T) {
	wantOne(t, "rec t.!(t+3).end", "!0 0+3 1, end", "0")
	wantOne(t, "rec t.?(!1 (t).t+1).t+2", "?0 1 0+2, !1 0 0+1", "0")
	wantOne(t, "rec t.?(rec u.!1 (t+4).u+1).&{a: t+2, b: !(rec u.t+5).end}", "?0 1 2, !1 0+4 1+1, &0 a:0+2 b:3, !0 0+5 4, end", "0")
	wantOne(t, "!(rec t.?int.t+1).rec t.!bool.t+2", "!0 1 3, ?0 2 1+1, int, !0 4 3+2, bool", "0")
}

// A name that is bound again inside has its outer meaning again beside.
func TestNamesThatAreBoundAgain(t *testing.T) {
	wantOne(t, "rec t.!1 (rec t.?2 int.t+1).t+2", "!1 1 0+2, ?2 2 1+1, int", "0")
	wantOne(t, "rec t.&{a: t+1, b: rec t.!int.t+2, c: t+3, d: rec t.?int.t+4, e: t+5}",
		"&0 a:0+1 b:1 c:0+3 d:3 e:0+5, !0 2 1+2, int, ?0 4 3+4, int", "0")
	wantOne(t, "rec t.!int.rec u.&{a: rec t.&{p: t+1, q: u+2, r: rec u.!(t+3).u+4, s: u+5}, b: t+6, c: u+7}",
		"!0 1 2, int, &0 a:3 b:0+6 c:2+7, &0 p:3+1 q:2+2 r:4 s:2+5, !0 3+3 4+4", "0")
	wantOne(t, "rec t.!int.rec t.rec u.&{a: t+1, b: u+2}", "!0 1 2, int, &0 a:2+1 b:2+2", "0")
	wantOne(t, "rec t.!int.rec u.rec t.?int.&{a: t+1, b: u+2}", "!0 1 2, int, ?0 3 4, int, &0 a:2+1 b:2+2", "0")
	wantOne(t, "rec t.!int.&{a: rec t.rec t.rec u.?int.u, b: rec u.t+3}", "!0 1 2, int, &0 a:3 b:0+3, ?0 4 3, int", "0")
}

func TestListsOfTypes(t *testing.T) {
	wantGraph(t, nil, "", "")
	wantGraph(t, []api.Type{}, "", "")
	wantGraph(t, types(t, "int", "end", "bool"), "int, end, bool", "0 1 2")
	wantGraph(t, types(t, "!1 int.end", "rec t.?2 bool.t+3", "&{a: end}", "rec t.end"),
		"!1 1 2, int, end, ?2 4 3+3, bool, &0 a:6, end, end", "0 3 5 7")
}

func TestTheSameNameInSeveralTypes(t *testing.T) {
	wantGraph(t, types(t, "rec t.!int.t+1", "rec t.?(t+2).t+3", "rec u.rec t.&{a: t+4, b: u+5}", "!bool.rec t.!int.t+6"),
		"!0 1 0+1, int, ?0 2+2 2+3, &0 a:3+4 b:3+5, !0 5 6, bool, !0 7 6+6, int", "0 2 3 4")
}

// A type that occurs more than once has nodes of its own each time.
func TestTheSameTypeMoreThanOnce(t *testing.T) {
	a := "rec t.+2 {l: t+1, m: end}"
	wantGraph(t, types(t, a, a, "int", a), "+2 l:0+1 m:1, end, +2 l:2+1 m:3, end, int, +2 l:5+1 m:6, end", "0 2 4 5")
	wantGraph(t, types(t, "end", "end", "end"), "end, end, end", "0 1 2")
	wantGraph(t, types(t, "!(!int.end).!int.end"), "!0 1 4, !0 2 3, int, end, !0 5 6, int, end", "0")
}

// P7.2

// wantReach takes the numbers in ascending order.
func wantReach(t *testing.T, g graph.Graph, r graph.Ref, want ...int) {
	t.Helper()
	if got := graph.Reach(g, r); !slices.Equal(got, want) {
		t.Errorf("from %s in %s: got %s, want %s", refText(r), short(graphText(g)), short(fmt.Sprint(got)), short(fmt.Sprint(want)))
	}
}

func TestReachFromEachNode(t *testing.T) {
	g, _ := graph.Build(types(t, "!1 (?2 int.end).&{a: rec t.!int.?bool.t+1, b: end}"))
	for n, want := range [][]int{{0, 1, 2, 3, 4, 5, 6, 7, 8, 9}, {1, 2, 3}, {2}, {3}, {4, 5, 6, 7, 8, 9}, {5, 6, 7, 8}, {6}, {5, 6, 7, 8}, {8}, {9}} {
		wantReach(t, g, graph.Ref{Node: n}, want...)
		wantReach(t, g, graph.Ref{Node: n, Shift: 5}, want...)
		wantReach(t, g, graph.Ref{Node: n, Shift: -5}, want...)
	}
}

// References Next lead to nodes before and after, so that the nodes are not reached in their order.
func TestReachInCircles(t *testing.T) {
	g, _ := graph.Build(types(t, "rec t.+{a: rec u.!(t+1).u, b: !int.rec v.?(v+1).end, c: end}"))
	for n, want := range [][]int{{0, 1, 2, 3, 4, 5, 6}, {0, 1, 2, 3, 4, 5, 6}, {2, 3, 4, 5}, {3}, {4, 5}, {5}, {6}} {
		wantReach(t, g, graph.Ref{Node: n}, want...)
	}
	g, _ = graph.Build(types(t, "rec t.!(t+1).t+2"))
	wantReach(t, g, graph.Ref{}, 0)
}

func TestReachLeavesOtherTypesOut(t *testing.T) {
	a := "rec t.!int.&{l: t+1, m: end}"
	g, refs := graph.Build(types(t, a, "end", a, "?(?end.end).end", a))
	wantReach(t, g, refs[0], 0, 1, 2, 3)
	wantReach(t, g, refs[1], 4)
	wantReach(t, g, refs[2], 5, 6, 7, 8)
	wantReach(t, g, refs[3], 9, 10, 11, 12, 13)
	wantReach(t, g, refs[4], 14, 15, 16, 17)
	wantReach(t, g, g.Nodes[16].Next[1], 17)
}
