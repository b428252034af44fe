package graph_test

import (
	"fmt"
	"math/rand/v2"
	"reflect"
	"slices"
	"sync"
	"testing"

	"duologue/api"
	"duologue/graph"
)

// P7.3

// withRoom returns the list in new memory, with unused capacity that has elements of its own.
func withRoom[E any](l []E, spare ...E) []E {
	return append(slices.Clip(l), spare...)[:len(l)]
}

func roomyTypes(l []api.Type) []api.Type {
	l = withRoom(l, api.Type{Kind: api.TRec, Name: "t", Kids: make([]api.Type, 1)}, api.Type{Kind: 77})
	for i := range l {
		l[i].Labels = withRoom(l[i].Labels, "spare", "room")
		l[i].Kids = roomyTypes(l[i].Kids)
	}
	return l
}

func roomyGraph(g graph.Graph) graph.Graph {
	g.Nodes = withRoom(g.Nodes, graph.Node{Kind: 77, Next: []graph.Ref{{Node: 1}}})
	for i, n := range g.Nodes {
		g.Nodes[i].Labels = withRoom(n.Labels, "spare", "room")
		g.Nodes[i].Next = withRoom(n.Next, graph.Ref{Node: 77}, graph.Ref{})
	}
	return g
}

// eachList calls f with each list in a value, with its unused capacity.
func eachList(v reflect.Value, f func(reflect.Value)) {
	switch v.Kind() {
	case reflect.Struct:
		for i := range v.NumField() {
			eachList(v.Field(i), f)
		}
	case reflect.Slice:
		v = v.Slice(0, v.Cap())
		f(v)
		for i := range v.Len() {
			eachList(v.Index(i), f)
		}
	}
}

// whole shows all that is in the lists of some values, with their unused capacity.
func whole(values ...any) string {
	s := fmt.Sprint(values...)
	for _, v := range values {
		eachList(reflect.ValueOf(v), func(l reflect.Value) { s += fmt.Sprintf("%d %v\n", l.Len(), l) })
	}
	return s
}

// wantNoSharing checks that no two lists in some values share memory.
func wantNoSharing(t *testing.T, values ...any) {
	t.Helper()
	seen := map[uintptr]bool{}
	for _, v := range values {
		eachList(reflect.ValueOf(v), func(l reflect.Value) {
			for i := range l.Len() {
				at := l.Index(i).Addr().Pointer()
				if seen[at] {
					t.Fatalf("%v is in two lists", l)
				}
				seen[at] = true
			}
		})
	}
}

// memorySamples are lists of types of every Kind, with unused capacity.
func memorySamples(t *testing.T) [][]api.Type {
	l := [][]api.Type{nil, {}, types(t, "int"), types(t, "rec t.&{b: !1 (t+2).t, a: rec u.+{a: u, c: t+1}}", "?bool.end", "?bool.end")}
	m := &maker{rand.New(rand.NewPCG(7, 2))}
	for range 100 {
		l = append(l, m.types())
	}
	for i := range l {
		l[i] = roomyTypes(l[i])
	}
	return l
}

func TestBuildSharesNoMemory(t *testing.T) {
	for _, l := range memorySamples(t) {
		before := whole(l)
		g, refs := graph.Build(l)
		g2, refs2 := graph.Build(l)
		if whole(l) != before {
			t.Fatalf("%s: the argument was modified", typeTexts(l))
		}
		wantNoSharing(t, l, g, refs, g2, refs2)
	}
}

// One part of an argument may be in several places.
func TestBuildOfTypesThatShareMemory(t *testing.T) {
	one := types(t, "+{b: rec t.!int.t+1, a: end}")[0]
	two := api.Type{Kind: api.TSend, Kids: []api.Type{one, one}}
	g, refs := wantLikeModel(t, []api.Type{one, two, one})
	wantNoSharing(t, g, refs, one.Kids)
	wantNoSharing(t, g, one.Labels)
}

func TestReachSharesNoMemory(t *testing.T) {
	for _, l := range memorySamples(t) {
		g, _ := graph.Build(l)
		g = roomyGraph(g)
		before := whole(g)
		for n := range g.Nodes {
			r := graph.Ref{Node: n, Shift: 3}
			got := graph.Reach(g, r)
			wantNoSharing(t, g, got, graph.Reach(g, r))
			if want := reachModel(g, r); !slices.Equal(got, want) {
				t.Errorf("from %d in %s: got %v, want %v", n, short(graphText(g)), got, want)
			}
		}
		if whole(g) != before {
			t.Fatalf("%s: the argument was modified", typeTexts(l))
		}
	}
}

// Neither what earlier calls were for, nor what later becomes of their arguments, has a part in a result.
func TestResultsDependOnArgumentsOnly(t *testing.T) {
	samples := memorySamples(t)
	for range 2 {
		for _, l := range samples {
			wantLikeModel(t, l)
		}
		slices.Reverse(samples)
	}
	l := roomyTypes(types(t, "&{a: !int.end, b: end}"))
	g, refs := graph.Build(l)
	before := whole(g, refs)
	l[0].Labels[0], l[0].Kids[0].Kind, l[0].Kids[1] = "c", api.TRecv, api.Type{}
	if whole(g, refs) != before {
		t.Error("the result was modified with the argument")
	}
}

func TestConcurrentCalls(t *testing.T) {
	samples := memorySamples(t)
	g, refs := graph.Build(samples[3])
	want := graph.Reach(g, refs[0])
	var all sync.WaitGroup
	for range 8 {
		all.Go(func() {
			for _, l := range samples {
				h, r := graph.Build(l)
				if k, s := modelOf(l); graphText(h) != graphText(k) || !slices.Equal(r, s) || !slices.Equal(graph.Reach(g, refs[0]), want) {
					t.Error("another result than that of a single call")
				}
			}
		})
	}
	all.Wait()
}
