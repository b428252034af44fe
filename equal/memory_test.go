package equal_test

import (
	"fmt"
	"math/rand/v2"
	"reflect"
	"slices"
	"sync"
	"testing"

	"duologue/api"
	"duologue/dual"
	"duologue/equal"
	"duologue/graph"
	"duologue/typetree"
)

// withRoom returns the list in new memory, with unused capacity that has elements of its own.
func withRoom[E any](l []E, spare ...E) []E {
	return append(slices.Clip(l), spare...)[:len(l)]
}

func roomyGraph(g graph.Graph) graph.Graph {
	g.Nodes = withRoom(g.Nodes, graph.Node{Kind: 77, Next: []graph.Ref{{Node: 1}}}, graph.Node{Kind: 4})
	for i, n := range g.Nodes {
		g.Nodes[i].Labels = withRoom(n.Labels, "spare", "room")
		g.Nodes[i].Next = withRoom(n.Next, graph.Ref{Node: 77}, graph.Ref{Shift: 5})
	}
	return g
}

// eachList calls f with each list in a value, with its unused capacity.
func eachList(v reflect.Value, f func(reflect.Value)) {
	switch v.Kind() {
	case reflect.Struct:
		for i := range v.NumField() {
			eachList(v.Field(i), f)
		}
	case reflect.Slice:
		v = v.Slice(0, v.Cap())
		f(v)
		for i := range v.Len() {
			eachList(v.Index(i), f)
		}
	}
}

// whole shows all that is in the lists of some values, with their unused capacity.
func whole(values ...any) string {
	s := fmt.Sprint(values...)
	for _, v := range values {
		eachList(reflect.ValueOf(v), func(l reflect.Value) { s += fmt.Sprintf("%d %v\n", l.Len(), l) })
	}
	return s
}

// samples are graphs with nodes of every Kind.
func samples(t *testing.T) []graph.Graph {
	t.Helper()
	var l []graph.Graph
	for _, sources := range [][]string{nil, {"int"}, {everyKind}, {circles}, {"rec t.&{b: !1 (t+2).t, a: rec u.+{a: u, c: t+1}}", "?bool.end", "?bool.end"}} {
		g, _ := build(t, sources...)
		l = append(l, g, dual.Close(g))
	}
	m := &maker{rand.New(rand.NewPCG(10, 3))}
	for range 30 {
		g, _ := graph.Build(m.types())
		l = append(l, g)
	}
	return l
}

// results shows all results for a graph.
func results(g graph.Graph) string {
	s := fmt.Sprintln(equal.Classes(g))
	for a := range g.Nodes {
		for b := range g.Nodes {
			k, ok := equal.Offset(g, ref(a, 2), ref(b, 1))
			s += fmt.Sprintln(a, b, equal.Equal(g, ref(a, 0), ref(b, 0)), equal.Alike(g, ref(a, 3), ref(b, 0)), k, ok)
		}
	}
	return s
}

func TestArgumentsAreNotModified(t *testing.T) {
	for _, g := range samples(t) {
		plain := results(g)
		g = roomyGraph(g)
		before := whole(g)
		// The unused capacity is no part of an argument.
		if got := results(g); got != plain {
			t.Errorf("got %s, want %s", got, plain)
		}
		if whole(g) != before {
			t.Errorf("%v: the graph was modified", g)
		}
	}
}

// A result is in new memory: it may be changed without a change of later results.
func TestChangesOfClasses(t *testing.T) {
	for _, g := range samples(t) {
		before := whole(g)
		first, second := equal.Classes(g), equal.Classes(g)
		want := slices.Clone(first)
		for i := range first {
			first[i] = -1
		}
		_ = append(first, 77)
		if !slices.Equal(second, want) || !slices.Equal(equal.Classes(g), want) || whole(g) != before {
			t.Errorf("%v: the graph or another result was modified with the result", g)
		}
	}
}

// Results depend on the arguments only: neither on earlier calls nor on the order of a map.
func TestSameResultsAgain(t *testing.T) {
	for _, g := range samples(t) {
		want := results(g)
		for range 3 {
			if got := results(g); got != want {
				t.Fatalf("got %s, want %s", got, want)
			}
		}
	}
}

func TestConcurrentCalls(t *testing.T) {
	l := samples(t)
	var want []string
	for _, g := range l {
		want = append(want, results(g))
	}
	var all sync.WaitGroup
	for range 8 {
		all.Go(func() {
			for i, g := range l {
				if results(g) != want[i] {
					t.Error("another result than that of a single call")
				}
			}
		})
	}
	all.Wait()
}

// wideType returns a type with as many labels as a type can have, in ascending or in descending order of their numbers.
func wideType(up bool, last api.Type) api.Type {
	const n = api.MaxNodes - 10
	wide := api.Type{Kind: api.TBranch, Prio: 3}
	for i := range n {
		wide.Labels = append(wide.Labels, fmt.Sprintf("l%d", i))
		wide.Kids = append(wide.Kids, api.Type{Kind: api.TVar, Name: "t"})
	}
	wide.Kids[n-1] = last
	if !up {
		slices.Reverse(wide.Labels)
		slices.Reverse(wide.Kids)
	}
	return api.Type{Kind: api.TRec, Name: "t", Kids: []api.Type{wide}}
}

func TestManyLabels(t *testing.T) {
	l := []api.Type{wideType(true, api.Type{Kind: api.TEnd}), wideType(false, api.Type{Kind: api.TEnd}),
		wideType(true, api.Type{Kind: api.TVar, Name: "t"}), wideType(false, api.Type{Kind: api.TVar, Name: "t", Shift: 1})}
	g, refs := graph.Build(l)
	for i, a := range refs {
		for j, b := range refs {
			want := other
			switch {
			case i == j, i+j == 1:
				want = same
			case i+j == 5:
				want = alike
			}
			wantCalls(t, g, a, b, want)
		}
	}
	wantClasses(t, g, 0, 1, 0, 1, 4, 5)
}

// binary makes a type that selects one of two labels again and again, of about n actions. Each rest that is no new
// action is an action around it, by chance.
func (m *maker) binary(n, depth int, around []string) api.Type {
	if n <= 0 || depth > 40 {
		return api.Type{Kind: api.TVar, Name: around[m.IntN(len(around))]}
	}
	name := fmt.Sprintf("t%d", depth)
	around = append(slices.Clip(around), name)
	left := m.IntN(n)
	a := api.Type{Kind: api.TSelect, Labels: []string{"l", "r"}, Kids: []api.Type{m.binary(left, depth+1, around), m.binary(n-1-left, depth+1, around)}}
	return api.Type{Kind: api.TRec, Name: name, Kids: []api.Type{a}}
}

// The pairs of nodes that can be reached are some millions.
func TestManyPairs(t *testing.T) {
	m := &maker{rand.New(rand.NewPCG(10, 4))}
	l := []api.Type{m.binary(3000, 0, nil), m.binary(3000, 0, nil)}
	last := &l[1]
	for last.Kind != api.TVar {
		last = &last.Kids[len(last.Kids)-1]
	}
	odd := typetree.Copy(l[1])
	last.Shift = 1
	l = append(l, odd)
	for _, a := range l {
		if typetree.Right(a) != api.OK {
			t.Fatal("not right")
		}
	}
	g, refs := graph.Build(l)
	for range 20 {
		wantCalls(t, g, refs[0], refs[1], alike)
		wantCalls(t, g, refs[1], refs[2], alike)
		wantCalls(t, g, refs[0], refs[2], same)
	}
	classes := equal.Classes(g)
	if classes[refs[1].Node] != refs[1].Node || classes[refs[2].Node] != 0 || classes[len(classes)-1] != 0 {
		t.Error("other classes")
	}
}

func TestManyTypes(t *testing.T) {
	l := types(t, circles, everyKind, circle("iib"), circle("iibiib"), chain("1234", circle("5")))
	g, refs := graph.Build(slices.Repeat(l, 1000))
	n, _ := graph.Build(l)
	first := equal.Classes(n)
	want := slices.Repeat(first, 1000)
	wantClasses(t, g, want...)
	wantCalls(t, g, refs[0], refs[len(refs)-5], same)
	wantCalls(t, g, refs[2], refs[len(refs)-2], same)
	wantCalls(t, g, refs[4], refs[len(refs)-4], other)
}
