package dual_test

import (
	"fmt"
	"math/rand/v2"
	"reflect"
	"slices"
	"sync"
	"testing"

	"duologue/api"
	"duologue/dual"
	"duologue/graph"
)

// P9.4

// withRoom returns the list in new memory, with unused capacity that has elements of its own.
func withRoom[E any](l []E, spare ...E) []E {
	return append(slices.Clip(l), spare...)[:len(l)]
}

func roomyGraph(g graph.Graph) graph.Graph {
	g.Nodes = withRoom(g.Nodes, graph.Node{Kind: 77, Next: []graph.Ref{{Node: 1}}}, graph.Node{Kind: 4})
	for i, n := range g.Nodes {
		g.Nodes[i].Labels = withRoom(n.Labels, "spare", "room")
		g.Nodes[i].Next = withRoom(n.Next, graph.Ref{Node: 77}, graph.Ref{Shift: 5})
	}
	return g
}

// eachList calls f with each list in a value, with its unused capacity.
func eachList(v reflect.Value, f func(reflect.Value)) {
	switch v.Kind() {
	case reflect.Struct:
		for i := range v.NumField() {
			eachList(v.Field(i), f)
		}
	case reflect.Slice:
		v = v.Slice(0, v.Cap())
		f(v)
		for i := range v.Len() {
			eachList(v.Index(i), f)
		}
	}
}

// whole shows all that is in the lists of some values, with their unused capacity.
func whole(values ...any) string {
	s := fmt.Sprint(values...)
	for _, v := range values {
		eachList(reflect.ValueOf(v), func(l reflect.Value) { s += fmt.Sprintf("%d %v\n", l.Len(), l) })
	}
	return s
}

// wantNoSharing checks that no two lists in some values share memory.
func wantNoSharing(t *testing.T, values ...any) {
	t.Helper()
	seen := map[uintptr]bool{}
	for _, v := range values {
		eachList(reflect.ValueOf(v), func(l reflect.Value) {
			for i := range l.Len() {
				at := l.Index(i).Addr().Pointer()
				if seen[at] {
					t.Fatalf("%v is in two lists", l)
				}
				seen[at] = true
			}
		})
	}
}

// samples are graphs with nodes of every Kind.
func samples(t *testing.T) []graph.Graph {
	t.Helper()
	var l []graph.Graph
	for _, sources := range [][]string{nil, {"int"}, {everyKind}, {circles}, {"rec t.&{b: !1 (t+2).t, a: rec u.+{a: u, c: t+1}}", "?bool.end", "?bool.end"}} {
		g, _ := build(t, sources...)
		l = append(l, g)
	}
	m := &maker{rand.New(rand.NewPCG(9, 2))}
	for range 100 {
		g, _ := graph.Build(m.types())
		l = append(l, g)
	}
	return l
}

func TestArgumentsAreNotModified(t *testing.T) {
	for _, g := range samples(t) {
		plain := nodeTexts(dual.Close(g))
		g = roomyGraph(g)
		before := whole(g)
		closed := dual.Close(g)
		// The unused capacity is no part of an argument.
		if got := nodeTexts(closed); !slices.Equal(got, plain) {
			t.Errorf("got %q, want %q", got, plain)
		}
		if whole(g) != before {
			t.Errorf("%q: Close modified its argument", nodeTexts(g))
		}
		n := len(g.Nodes)
		closed = roomyGraph(closed)
		before = whole(closed)
		for i := range n {
			wantOf(t, closed, ref(i, 4), ref(n+i, 4))
			wantOf(t, closed, ref(n+i, 4), ref(i, 4))
		}
		if whole(closed) != before {
			t.Errorf("%q: Of modified its argument", nodeTexts(g))
		}
	}
}

func TestResultsShareNoMemory(t *testing.T) {
	for _, g := range samples(t) {
		wantNoSharing(t, g, dual.Close(g), dual.Close(g))
		g = roomyGraph(g)
		wantNoSharing(t, g, dual.Close(g), dual.Close(g))
	}
}

// spoil changes all that is in a graph, and its unused capacity.
func spoil(g graph.Graph) {
	for _, n := range g.Nodes {
		for i := range n.Labels {
			n.Labels[i] = "changed"
		}
		for i := range n.Next {
			n.Next[i].Node, n.Next[i].Shift = 99, -99
		}
		_, _ = append(n.Labels, "more"), append(n.Next, ref(88, 88))
	}
	for i := range g.Nodes {
		g.Nodes[i].Kind, g.Nodes[i].Prio = api.TVar, 77
		g.Nodes[i].Labels, g.Nodes[i].Next = nil, nil
	}
	_ = append(g.Nodes, graph.Node{Kind: 66})
}

// A result may be changed without a change of the argument, or of other results.
func TestChangesOfResults(t *testing.T) {
	for _, g := range samples(t) {
		first, second := dual.Close(g), dual.Close(g)
		want, wantSecond, text := whole(g), whole(second), nodeTexts(second)
		spoil(first)
		if whole(g) != want || whole(second) != wantSecond {
			t.Errorf("%q: the graph or another result was modified with the result", nodeTexts(g))
		}
		if got := nodeTexts(dual.Close(g)); !slices.Equal(got, text) {
			t.Errorf("a later result is %q, want %q", got, text)
		}
	}
}

// A change in one half of a result is none of the other half, and one of a list none of another list.
func TestChangesWithinAResult(t *testing.T) {
	for _, g := range samples(t) {
		closed, other := dual.Close(g), dual.Close(g)
		n := len(g.Nodes)
		for i := range closed.Nodes {
			lone := closed.Nodes[i]
			closed.Nodes[i] = other.Nodes[i]
			want := whole(closed)
			spoil(graph.Graph{Nodes: []graph.Node{lone}})
			if whole(closed) != want {
				t.Errorf("%d nodes: others were modified with the node %d", 2*n, i)
			}
		}
	}
}

// A result does not change with the graph later on.
func TestResultsStayWhenTheGraphChanges(t *testing.T) {
	for _, g := range samples(t) {
		g = roomyGraph(g)
		closed := dual.Close(g)
		want := whole(closed)
		spoil(g)
		if whole(closed) != want {
			t.Errorf("%q: the result was modified with the graph", nodeTexts(closed))
		}
	}
	g, _ := build(t, "!1 int.end")
	closed := dual.Close(g)
	g.Nodes[0].Kind, g.Nodes[0].Prio, g.Nodes[0].Next[1] = api.TRecv, 2, ref(0, 3)
	if got := nodeTexts(closed); !slices.Equal(got, []string{"!1 1 2", "int", "end", "?1 1 5", "int", "end"}) {
		t.Errorf("got %q", got)
	}
	if got := nodeTexts(dual.Close(g)); !slices.Equal(got, []string{"?2 1 0+3", "int", "end", "!2 1 3+3", "int", "end"}) {
		t.Errorf("got %q", got)
	}
}

func TestConcurrentCalls(t *testing.T) {
	l := samples(t)
	var want [][]string
	for _, g := range l {
		want = append(want, nodeTexts(dual.Close(g)))
	}
	shared := dual.Close(l[2])
	var all sync.WaitGroup
	for range 8 {
		all.Go(func() {
			for i, g := range l {
				if !slices.Equal(nodeTexts(dual.Close(g)), want[i]) || dual.Of(shared, ref(i%9, 1)) != ref(i%9+9, 1) || dual.Kind(api.TSend) != api.TRecv {
					t.Error("another result than that of a single call")
				}
			}
		})
	}
	all.Wait()
}

// A node with as many labels as a type can have, and a graph of many types.
func TestLargeGraphs(t *testing.T) {
	const n = api.MaxNodes - 1
	wide := api.Type{Kind: api.TBranch, Prio: 3, Labels: make([]string, n), Kids: make([]api.Type, n)}
	for i := range n {
		wide.Labels[i], wide.Kids[i] = fmt.Sprintf("l%d", i), api.Type{Kind: api.TEnd}
	}
	g, _ := graph.Build([]api.Type{wide})
	wantClosed(t, g, dual.Close(g))
	g, refs := graph.Build(slices.Repeat(types(t, circles), 1<<12))
	closed := dual.Close(g)
	wantClosed(t, g, closed)
	last := refs[len(refs)-1]
	wantOf(t, closed, last, ref(len(g.Nodes)+last.Node, 0))
}
