package subtype_test

import (
	"fmt"
	"math/rand/v2"
	"reflect"
	"runtime/debug"
	"slices"
	"strings"
	"sync"
	"testing"

	"duologue/api"
	"duologue/dual"
	"duologue/graph"
	"duologue/subtype"
	"duologue/typetree"
)

// withRoom returns the list in new memory, with unused capacity that has elements of its own.
func withRoom[E any](l []E, spare ...E) []E {
	return append(slices.Clip(l), spare...)[:len(l)]
}

func roomyGraph(g graph.Graph) graph.Graph {
	g.Nodes = withRoom(g.Nodes, graph.Node{Kind: 77, Next: []graph.Ref{{Node: 1}}}, graph.Node{Kind: 4})
	for i, n := range g.Nodes {
		g.Nodes[i].Labels = withRoom(n.Labels, "l", "spare", "room")
		g.Nodes[i].Next = withRoom(n.Next, graph.Ref{Node: 77}, graph.Ref{Shift: 5})
	}
	return g
}

// eachList calls f with each list in a value, with its unused capacity.
func eachList(v reflect.Value, f func(reflect.Value)) {
	switch v.Kind() {
	case reflect.Struct:
		for i := range v.NumField() {
			eachList(v.Field(i), f)
		}
	case reflect.Slice:
		v = v.Slice(0, v.Cap())
		f(v)
		for i := range v.Len() {
			eachList(v.Index(i), f)
		}
	}
}

// whole shows all that is in the lists of some values, with their unused capacity.
func whole(values ...any) string {
	s := fmt.Sprint(values...)
	for _, v := range values {
		eachList(reflect.ValueOf(v), func(l reflect.Value) { s += fmt.Sprintf("%d %v\n", l.Len(), l) })
	}
	return s
}

// samples are closed graphs, and with each one the graph of which it was made.
func samples(t *testing.T) (closed, plain []graph.Graph) {
	t.Helper()
	for _, sources := range [][]string{{"int"}, {everyKind, everyKind}, {circles}, {circle("ffm"), circle("ff"), circle("m")},
		{"rec t.&{b: !1 (t+2).t, a: rec u.+{a: u, c: t+1}}", "rec t.&{b: !1 (t+2).t, a: rec u.+{a: u}}", "?bool.end"}} {
		g, _ := build(t, sources...)
		closed, plain = append(closed, dual.Close(g)), append(plain, g)
	}
	m := &maker{rand.New(rand.NewPCG(11, 5))}
	for range 30 {
		g, _ := graph.Build(m.types())
		closed, plain = append(closed, dual.Close(g)), append(plain, g)
	}
	return closed, plain
}

// results shows all results for a graph, with those of Fits if it is closed.
func results(g graph.Graph, closed bool) string {
	var s strings.Builder
	show := func(result bool) { s.WriteString(map[bool]string{true: "+", false: "-"}[result]) }
	for a := range g.Nodes {
		for b := range g.Nodes {
			show(subtype.Sub(g, ref(a, 1), ref(b, 1)))
			show(subtype.Sub(g, ref(a, 1), ref(b, 0)))
			show(subtype.Same(g, ref(a, 2), ref(b, 2)))
			if closed && isSession(g, ref(a, 0)) && isSession(g, ref(b, 0)) {
				show(subtype.Fits(g, ref(a, 0), ref(b, 0)))
				show(subtype.Fits(g, ref(a, 1), ref(b, 0)))
			}
		}
		s.WriteString("\n")
	}
	return s.String()
}

func TestArgumentsAreNotModified(t *testing.T) {
	closed, plain := samples(t)
	for i, g := range append(slices.Clone(closed), plain...) {
		isClosed := i < len(closed)
		want := results(g, isClosed)
		g = roomyGraph(g)
		before := whole(g)
		// The unused capacity is no part of an argument.
		if got := results(g, isClosed); got != want {
			t.Errorf("got %s, want %s", got, want)
		}
		if whole(g) != before {
			t.Errorf("%v: the graph was modified", g)
		}
	}
}

// Results depend on the arguments only: neither on earlier calls nor on the order of a map.
func TestSameResultsAgain(t *testing.T) {
	closed, _ := samples(t)
	for _, g := range closed {
		want := results(g, true)
		for range 3 {
			if got := results(g, true); got != want {
				t.Fatalf("got %s, want %s", got, want)
			}
		}
	}
}

// What is related in a graph is not kept: after a change of the graph, other references are.
func TestChangesOfGraphs(t *testing.T) {
	g, refs := build(t, "rec t.+{a: t, b: end}", "rec t.+{a: t}")
	wantCalls(t, g, refs[0], refs[1], below)
	labels := g.Nodes[0].Labels
	labels[0], labels[1] = "c", "d"
	wantCalls(t, g, refs[0], refs[1], neither)
	labels[1] = "a"
	wantCalls(t, g, refs[0], refs[1], neither)
	labels[0], labels[1] = "a", "b"
	wantCalls(t, g, refs[0], refs[1], below)
}

func TestConcurrentCalls(t *testing.T) {
	closed, _ := samples(t)
	var want []string
	for _, g := range closed {
		want = append(want, results(g, true))
	}
	var all sync.WaitGroup
	for range 8 {
		all.Go(func() {
			for i, g := range closed {
				if results(g, true) != want[i] {
					t.Error("another result than that of a single call")
				}
			}
		})
	}
	all.Wait()
}

// wideType returns a type with about as many labels as a type can have, in ascending or in descending order of their
// numbers, of which some are left out.
func wideType(up bool, without, last int) api.Type {
	wide := api.Type{Kind: api.TBranch, Prio: 3}
	for i := without; i < api.MaxNodes-10; i++ {
		wide.Labels = append(wide.Labels, fmt.Sprintf("l%d", i))
		wide.Kids = append(wide.Kids, api.Type{Kind: api.TVar, Name: "t"})
	}
	wide.Kids[len(wide.Kids)-1].Shift = last
	if !up {
		slices.Reverse(wide.Labels)
		slices.Reverse(wide.Kids)
	}
	return api.Type{Kind: api.TRec, Name: "t", Kids: []api.Type{wide}}
}

func TestManyLabels(t *testing.T) {
	g, refs := graph.Build([]api.Type{wideType(true, 0, 0), wideType(false, 0, 0), wideType(false, 1, 0), wideType(true, 9, 0), wideType(false, 1, 2)})
	for _, x := range []struct {
		a, b int
		want verdict
	}{{0, 1, same}, {0, 2, above}, {3, 1, below}, {3, 2, below}, {0, 4, neither}, {3, 4, neither}} {
		wantCalls(t, g, refs[x.a], refs[x.b], x.want)
	}
}

// binary makes a type that selects one of two labels again and again, of about n actions. Each rest that is no new
// action is an action around it, by chance.
func (m *maker) binary(n, depth int, around []string) api.Type {
	if n <= 0 || depth > 40 {
		return api.Type{Kind: api.TVar, Name: around[m.IntN(len(around))]}
	}
	name := fmt.Sprintf("t%d", depth)
	around = append(slices.Clip(around), name)
	left := m.IntN(n)
	a := api.Type{Kind: api.TSelect, Labels: []string{"l", "r"}, Kids: []api.Type{m.binary(left, depth+1, around), m.binary(n-1-left, depth+1, around)}}
	return api.Type{Kind: api.TRec, Name: name, Kids: []api.Type{a}}
}

// cut returns a type without one label r behind labels l only, and with another Shift of the label l beside it.
func cut(a api.Type, shift int) api.Type {
	a = typetree.Copy(a)
	node := &a.Kids[0]
	for node.Kids[0].Kind == api.TRec {
		node = &node.Kids[0].Kids[0]
	}
	node.Labels, node.Kids = node.Labels[:1], node.Kids[:1]
	node.Kids[0].Shift = shift
	return a
}

// The pairs of nodes that can be reached are some millions, and a path through them is too long for a small stack.
func TestManyPairs(t *testing.T) {
	defer debug.SetMaxStack(debug.SetMaxStack(1 << 26))
	m := &maker{rand.New(rand.NewPCG(11, 6))}
	l := []api.Type{m.binary(3000, 0, nil), m.binary(3000, 0, nil)}
	l = append(l, cut(l[1], 0), cut(l[1], 1))
	for _, a := range l {
		if typetree.Right(a) != api.OK {
			t.Fatal("not right")
		}
	}
	g, refs := graph.Build(l)
	wantCalls(t, g, refs[0], refs[1], same)
	wantCalls(t, g, refs[0], refs[2], below)
	wantCalls(t, g, refs[1], refs[2], below)
	wantCalls(t, g, refs[0], refs[3], neither)
	wantCalls(t, g, refs[2], refs[3], neither)
}

// The graph is large, and only a small part of it is reached.
func TestManyTypes(t *testing.T) {
	l := types(t, circles, everyKind, circle("ffm"), circle("mfm"), chain("fm12", circle("5")), circle("f"))
	g, refs := graph.Build(slices.Repeat(l, 1000))
	last := refs[len(refs)-len(l):]
	for i, a := range refs[:len(l)] {
		for j, b := range last {
			want := neither
			switch {
			case i == j:
				want = same
			case i == 3 && j == 2, i < 4 && i > 1 && j == 5:
				want = below
			case i == 2 && j == 3, j < 4 && j > 1 && i == 5:
				want = above
			}
			wantCalls(t, g, a, b, want)
		}
	}
}
