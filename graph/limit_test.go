package graph_test

import (
	"fmt"
	"testing"

	"duologue/api"
	"duologue/graph"
	"duologue/typetree"
)

// P1, and sets of more numbers than a word has bits.

// numbers are those from one up to another, without the second.
func numbers(from, to int) []int {
	var l []int
	for n := from; n < to; n++ {
		l = append(l, n)
	}
	return l
}

// chain is a type with a number of actions in front of another type, whose payloads are int.
func chain(n int, end api.Type) api.Type {
	for range n {
		end = api.Type{Kind: api.TSend, Prio: n, Kids: []api.Type{{Kind: api.TInt}, end}}
	}
	return end
}

func wantRight(t *testing.T, a api.Type) api.Type {
	t.Helper()
	if err := typetree.Right(a); err != api.OK {
		t.Fatalf("%s: error %d", typeTexts([]api.Type{a}), err)
	}
	return a
}

// Graphs with about as many nodes as one word and two words have bits, in which one circle is in both.
func TestReachInGraphsOfSeveralWords(t *testing.T) {
	for _, actions := range []int{15, 16, 31, 32, 63, 64, 95, 96} {
		for before := range 3 {
			var l []api.Type
			for range before {
				l = append(l, api.Type{Kind: api.TEnd})
			}
			circle := wantRight(t, api.Type{Kind: api.TRec, Name: "t", Kids: []api.Type{chain(actions, api.Type{Kind: api.TVar, Name: "t", Shift: 1})}})
			line := wantRight(t, chain(actions, api.Type{Kind: api.TEnd}))
			g, refs := graph.Build(append(l, circle, line, circle))
			first, second, third := before, before+2*actions, before+4*actions+1
			wantReach(t, g, refs[before], numbers(first, second)...)
			wantReach(t, g, refs[before+1], numbers(second, third)...)
			wantReach(t, g, refs[before+2], numbers(third, third+2*actions)...)
			for n := range g.Nodes {
				wantReach(t, g, graph.Ref{Node: n}, reachModel(g, graph.Ref{Node: n})...)
			}
		}
	}
}

// Each part reaches only its own nodes: two for each action, and an end.
func TestReachFromPartsOfAWideType(t *testing.T) {
	var kids []api.Type
	var labels []string
	for i := range 300 {
		kids, labels = append(kids, chain(i%4, api.Type{Kind: api.TEnd})), append(labels, fmt.Sprint("l", i))
	}
	a := wantRight(t, api.Type{Kind: api.TBranch, Labels: labels, Kids: kids})
	g, refs := graph.Build([]api.Type{a})
	wantReach(t, g, refs[0], numbers(0, len(g.Nodes))...)
	for i, r := range g.Nodes[0].Next {
		wantReach(t, g, r, numbers(r.Node, r.Node+1+2*(i%4))...)
	}
}

func TestTypesAtTheLimits(t *testing.T) {
	end := api.Type{Kind: api.TEnd}
	wantLikeModel(t, []api.Type{wantRight(t, chain(99, end))})

	recs := api.Type{Kind: api.TBranch}
	for i := range 98 {
		recs.Labels = append(recs.Labels, fmt.Sprint("l", i))
		recs.Kids = append(recs.Kids, api.Type{Kind: api.TVar, Name: fmt.Sprint("t", i), Shift: api.MaxPrio - i})
	}
	for i := range 98 {
		recs = api.Type{Kind: api.TRec, Name: fmt.Sprint("t", i), Kids: []api.Type{recs}}
	}
	wantLikeModel(t, []api.Type{wantRight(t, recs)})

	wide := api.Type{Kind: api.TSelect, Prio: api.MaxPrio}
	for i := range api.MaxNodes - 1 {
		wide.Labels = append(wide.Labels, fmt.Sprint("l", i))
		wide.Kids = append(wide.Kids, end)
	}
	g, refs := graph.Build([]api.Type{wantRight(t, wide)})
	wantReach(t, g, refs[0], numbers(0, api.MaxNodes)...)
	wantReach(t, g, g.Nodes[0].Next[9000], 9001)

	scopes := api.Type{Kind: api.TBranch, Labels: wide.Labels[:100]}
	for range scopes.Labels {
		kid := api.Type{Kind: api.TVar, Name: "t"}
		for j := range 97 {
			kid = api.Type{Kind: api.TRec, Name: fmt.Sprint("t", j), Kids: []api.Type{kid}}
		}
		scopes.Kids = append(scopes.Kids, kid)
	}
	wantLikeModel(t, []api.Type{wantRight(t, api.Type{Kind: api.TRec, Name: "t", Kids: []api.Type{scopes}})})
}

// Many types, each with some nodes.
func TestLongLists(t *testing.T) {
	l := types(t, "rec t.!int.&{a: t+1, b: end}", "bool")
	for len(l) < 1<<16 {
		l = append(l, l...)
	}
	g, refs := graph.Build(l)
	if len(g.Nodes) != len(l)/2*5 || len(refs) != len(l) {
		t.Fatalf("%d types: got %d nodes, and %d references", len(l), len(g.Nodes), len(refs))
	}
	for i, r := range refs {
		if want := (graph.Ref{Node: i/2*5 + i%2*4}); r != want {
			t.Fatalf("%d: got %v, want %v", i, r, want)
		}
	}
	last := len(g.Nodes) - 5
	wantReach(t, g, refs[len(l)-2], numbers(last, last+4)...)
}
