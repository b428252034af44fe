package head_test

import (
	"fmt"
	"reflect"
	"slices"
	"sync"
	"testing"

	"duologue/api"
	"duologue/graph"
	"duologue/head"
)

// Rules 5, 7 and 8, and P1 for large arguments.

// withRoom returns the list in new memory, with unused capacity that has elements of its own.
func withRoom[E any](l []E, spare ...E) []E {
	return append(slices.Clip(l), spare...)[:len(l)]
}

// roomyGraph returns a graph in new memory, each list of which has unused capacity.
func roomyGraph(g graph.Graph) graph.Graph {
	g.Nodes = withRoom(g.Nodes, graph.Node{Kind: api.TSend, Next: refs(0, 0)})
	for i, n := range g.Nodes {
		g.Nodes[i].Labels = withRoom(n.Labels, "A", "spare")
		g.Nodes[i].Next = withRoom(n.Next, ref(77, 0), ref(0, 0))
	}
	return g
}

// eachList calls f with each list in a value, with its unused capacity.
func eachList(v reflect.Value, f func(reflect.Value)) {
	switch v.Kind() {
	case reflect.Struct:
		for i := range v.NumField() {
			eachList(v.Field(i), f)
		}
	case reflect.Slice:
		v = v.Slice(0, v.Cap())
		f(v)
		for i := range v.Len() {
			eachList(v.Index(i), f)
		}
	}
}

// whole shows all that is in the lists of some values, with their unused capacity.
func whole(values ...any) string {
	s := fmt.Sprint(values...)
	for _, v := range values {
		eachList(reflect.ValueOf(v), func(l reflect.Value) { s += fmt.Sprintf("%d %v\n", l.Len(), l) })
	}
	return s
}

// wantNoSharing checks that no two lists in some values share memory.
func wantNoSharing(t *testing.T, values ...any) {
	t.Helper()
	seen := map[uintptr]bool{}
	for _, v := range values {
		eachList(reflect.ValueOf(v), func(l reflect.Value) {
			for i := range l.Len() {
				at := l.Index(i).Addr().Pointer()
				if seen[at] {
					t.Fatalf("%v is in two lists", l)
				}
				seen[at] = true
			}
		})
	}
}

// resultText shows the results of all functions for a graph and references to all its nodes.
func resultText(g graph.Graph, l []graph.Ref, path []int) string {
	s := fmt.Sprintln(head.Lowest(g, l))
	for n := range g.Nodes {
		r := head.Raise(ref(n, 3), n)
		s += fmt.Sprintf("%v %d %q\n", r, head.Kind(g, r), head.Labels(g, r))
		s += fmt.Sprintln(head.Prio(g, r)) + fmt.Sprintln(head.After(g, r, path))
		for i := range len(g.Nodes[n].Next) + 2 {
			s += fmt.Sprintln(head.Next(g, r, i-1))
		}
		for _, label := range []string{"", "a", "l", "m", "spare"} {
			s += fmt.Sprintln(head.Label(g, r, label))
		}
	}
	return s
}

func TestArgumentsAreNotModified(t *testing.T) {
	for _, source := range []string{everyKind, circles, actions, "rec t.&{b: t+1, a: +{z: t, y: end, B: t}, C: end}", "int"} {
		g, l := build(t, source, "+{b: end, a: end}")
		plain := resultText(g, l, []int{1, 0})
		g = roomyGraph(g)
		l, path := withRoom(l, ref(1, -1000), ref(0, -1000)), withRoom([]int{1, 0}, 0, 0)
		before := whole(g, l, path)
		// The unused capacity is no part of an argument.
		if got := resultText(g, l, path); got != plain {
			t.Errorf("%s: got %s, want %s", source, got, plain)
		}
		if whole(g, l, path) != before {
			t.Errorf("%s: an argument was modified", source)
		}
	}
}

func TestLabelsAreInNewMemory(t *testing.T) {
	g, _ := build(t, "rec t.&{c: t, a: +{y: end, x: end}, b: end}", "+{a: end, b: end}", "&{only: end}")
	for n := range g.Nodes {
		r := ref(n, 1)
		before := whole(g)
		first, second := head.Labels(g, r), head.Labels(g, r)
		wantNoSharing(t, g, first, second)
		want := slices.Clone(second)
		for i := range first {
			first[i] = "changed"
		}
		_ = append(first, "more")
		if whole(g) != before {
			t.Errorf("node %d: the graph was modified with the result", n)
		}
		wantLabels(t, g, r, want...)
		if !slices.Equal(second, want) {
			t.Errorf("node %d: another result was modified", n)
		}
	}
}

// A result does not change with the graph later on.
func TestLabelsStayWhenTheGraphChanges(t *testing.T) {
	g, _ := build(t, "&{b: end, a: end}")
	l := head.Labels(g, ref(0, 0))
	g.Nodes[0].Labels[0], g.Nodes[0].Labels[1] = "x", "y"
	if !slices.Equal(l, []string{"a", "b"}) {
		t.Errorf("got %q", l)
	}
	wantLabels(t, g, ref(0, 0), "x", "y")
	wantLabel(t, g, ref(0, 0), "a", graph.Ref{}, false)
	wantLabel(t, g, ref(0, 0), "y", ref(2, 0), true)
}

func TestConcurrentCalls(t *testing.T) {
	g, l := build(t, everyKind, circles, actions)
	want := resultText(g, l, []int{1, 1})
	var all sync.WaitGroup
	for range 8 {
		all.Go(func() {
			for range 20 {
				if resultText(g, l, []int{1, 1}) != want {
					t.Error("another result than that of a single call")
				}
			}
		})
	}
	all.Wait()
}

func TestLongPathsAndLists(t *testing.T) {
	g, first := build(t, "rec t.!1 int.t+2", "int")
	const n = 1 << 20
	path := slices.Repeat([]int{1}, n)
	wantAfter(t, g, ref(0, 5), path, ref(0, 5+2*n), true)
	path[n-1] = 0
	wantAfter(t, g, ref(0, 5), path, ref(1, 3+2*n), true)
	path[n-1] = 2
	if r, ok := head.After(g, first[0], path); ok || r != (graph.Ref{}) {
		t.Errorf("got %v and %v", r, ok)
	}
	l := slices.Repeat(first, n)
	l[n].Shift = -8
	if prio, ok := head.Lowest(g, l); prio != -7 || !ok {
		t.Errorf("got %d and %v", prio, ok)
	}
	if prio, ok := head.Lowest(g, slices.Repeat(first[1:], n)); prio != 0 || ok {
		t.Errorf("got %d and %v", prio, ok)
	}
}

// A node with as many labels as a type can have.
func TestManyLabels(t *testing.T) {
	const n = api.MaxNodes - 1
	wide := api.Type{Kind: api.TBranch, Labels: make([]string, n), Kids: make([]api.Type, n)}
	var want []string
	for i := range n {
		want = append(want, fmt.Sprintf("l%05d", i))
		wide.Labels[n-1-i], wide.Kids[i] = want[i], api.Type{Kind: api.TEnd}
	}
	g, _ := graph.Build([]api.Type{wide})
	if got := head.Labels(g, ref(0, 4)); !slices.Equal(got, want) {
		t.Errorf("%d labels from %q on", len(got), got[:min(len(got), 3)])
	}
	for i, label := range want {
		wantLabel(t, g, ref(0, 4), label, ref(n-i, 4), true)
	}
	wantNext(t, g, ref(0, 4), n-1, ref(n, 4), true)
	wantNext(t, g, ref(0, 4), n, graph.Ref{}, false)
}
