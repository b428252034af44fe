package context_test

import (
	"fmt"
	"reflect"
	"slices"
	"sync"
	"testing"

	"duologue/api"
	"duologue/context"
	"duologue/dual"
	"duologue/graph"
)

// P13.4, rules 5, 7 and 8, and P1 for large arguments.

// withRoom returns the list in new memory, with unused capacity that has elements of its own.
func withRoom[E any](l []E, spare ...E) []E {
	return append(slices.Clip(l), spare...)[:len(l)]
}

// roomyGraph returns a graph in new memory, each list of which has unused capacity.
func roomyGraph(g graph.Graph) graph.Graph {
	g.Nodes = withRoom(g.Nodes, graph.Node{Kind: api.TSend, Next: []graph.Ref{{}, {}}})
	for i, n := range g.Nodes {
		g.Nodes[i].Labels = withRoom(n.Labels, "A", "spare")
		g.Nodes[i].Next = withRoom(n.Next, ref(77, 0), ref(0, 0))
	}
	return g
}

// eachList calls f with each list in a value, with its unused capacity.
func eachList(v reflect.Value, f func(reflect.Value)) {
	switch v.Kind() {
	case reflect.Struct:
		for i := range v.NumField() {
			eachList(v.Field(i), f)
		}
	case reflect.Slice:
		v = v.Slice(0, v.Cap())
		f(v)
		for i := range v.Len() {
			eachList(v.Index(i), f)
		}
	}
}

// whole shows all that is in the lists of some values, with their unused capacity.
func whole(values ...any) string {
	s := fmt.Sprint(values...)
	for _, v := range values {
		eachList(reflect.ValueOf(v), func(l reflect.Value) { s += fmt.Sprintf("%d %v\n", l.Len(), l) })
	}
	return s
}

// wantNoSharing checks that no two lists in some values share memory.
func wantNoSharing(t *testing.T, values ...any) {
	t.Helper()
	seen := map[uintptr]bool{}
	for _, v := range values {
		eachList(reflect.ValueOf(v), func(l reflect.Value) {
			for i := range l.Len() {
				at := l.Index(i).Addr().Pointer()
				if seen[at] {
					t.Fatalf("%v is in two lists", l)
				}
				seen[at] = true
			}
		})
	}
}

// results returns all lists that the functions make of a context.
func results(g graph.Graph, c []context.Entry, names []string) [][]context.Entry {
	l := [][]context.Entry{context.Live(g, c)}
	for _, name := range append(names, "none") {
		l = append(l, context.Set(c, name, ref(1, -1)), context.Drop(c, name))
	}
	in, out := context.Split(g, c, names)
	return append(l, in, out)
}

// resultText shows the results of all functions for a context.
func resultText(g graph.Graph, c []context.Entry, names []string) string {
	s := ""
	for _, l := range results(g, c, slices.Clone(names)) {
		s += text(l) + "\n"
	}
	for _, name := range append(slices.Clone(names), "none") {
		s += fmt.Sprintln(context.Find(c, name)) + fmt.Sprintln(context.Lowest(g, c, name))
	}
	return s
}

// contexts are those that the tests of memory take, with the nodes of everyKind.
func contexts() [][]context.Entry {
	return [][]context.Entry{
		nil,
		{},
		{entry("a", 0, 0)},
		{entry("a", 1, 0)},
		{entry("a", 5, 0), entry("e", 7, 0)},
		{entry("a", 6, 0), entry("e", 8, 0), entry("b", 4, -9), entry("", 0, 3), entry("i", 3, 0)},
		{entry("a", 6, 0), entry("a", 1, 0), entry("b", 4, -9), entry("b", 2, 0), entry("a", 2, 1)},
	}
}

func TestArgumentsAreNotModified(t *testing.T) {
	for _, g := range graphs(t) {
		for _, c := range contexts() {
			for _, names := range [][]string{nil, {"a"}, {"b", "a", "a"}, {"", "x", "i"}} {
				plain := resultText(g, c, names)
				g, c, names := roomyGraph(g), withRoom(c, entry("spare", 0, -1000), entry("none", 2, -1000)), withRoom(names, "e", "b")
				before := whole(g, c, names)
				// The unused capacity is no part of an argument.
				if got := resultText(g, c, names); got != plain {
					t.Errorf("%s, %q: got %s, want %s", text(c), names, got, plain)
				}
				if whole(g, c, names) != before {
					t.Errorf("%s, %q: an argument was modified", text(c), names)
				}
			}
		}
	}
}

func TestResultsAreInNewMemory(t *testing.T) {
	for _, g := range graphs(t) {
		for _, c := range contexts() {
			for _, names := range [][]string{nil, {"a"}, {"a", "b", ""}, {"none"}} {
				c := withRoom(c, entry("spare", 0, -1000), entry("none", 2, -1000))
				before := whole(c)
				first, second := results(g, c, slices.Clone(names)), results(g, c, slices.Clone(names))
				wantNoSharing(t, c, first, second)
				want := whole(second)
				for _, l := range first {
					for i := range l {
						l[i] = entry("changed", 99, 99)
					}
					_ = append(l, entry("more", 99, 99))
				}
				if whole(c) != before {
					t.Errorf("%s: the context was modified with a result", text(c))
				}
				if whole(second) != want {
					t.Errorf("%s: another result was modified", text(c))
				}
			}
		}
	}
}

// A result does not change with the context later on.
func TestResultsStayWhenTheContextChanges(t *testing.T) {
	g, _ := build(t, everyKind)
	c := []context.Entry{entry("a", 6, 0), entry("e", 8, 0), entry("b", 4, -9), entry("d", 0, 3)}
	names := []string{"a", "d"}
	l := results(g, c, slices.Clone(names))
	want := whole(l)
	for i := range c {
		c[i] = entry("changed", 99, 99)
	}
	names[0], names[1] = "b", "b"
	if whole(l) != want {
		t.Error("a result was modified with the context")
	}
}

func TestConcurrentCalls(t *testing.T) {
	g := graphs(t)[1]
	names := []string{"a", "i", "e"}
	want := ""
	for _, c := range contexts() {
		want += resultText(g, c, names)
	}
	all := contexts()
	var group sync.WaitGroup
	for range 8 {
		group.Go(func() {
			for range 20 {
				got := ""
				for _, c := range all {
					got += resultText(g, c, names)
				}
				if got != want {
					t.Error("another result than that of a single call")
				}
			}
		})
	}
	group.Wait()
}

// A long context is split by many names without a walk over all of them for each entry.
func TestLargeContexts(t *testing.T) {
	g, refs := build(t, "!int.end", "end", "int")
	g = dual.Close(g)
	const n = 300000
	var c, in, out []context.Entry
	var names []string
	for i := range n {
		e := context.Entry{Name: fmt.Sprint("n", i), R: refs[i%3]}
		e.R.Shift = n - i
		c = append(c, e)
		chosen := i%2 == 0
		if chosen {
			names = append(names, e.Name)
		}
		if chosen || i%3 > 0 {
			in = append(in, e)
		}
		if !chosen || i%3 > 0 {
			out = append(out, e)
		}
	}
	gotIn, gotOut := context.Split(g, c, names)
	if !slices.Equal(gotIn, in) || !slices.Equal(gotOut, out) {
		t.Errorf("%d and %d entries", len(gotIn), len(gotOut))
	}
	if l := context.Live(g, c); len(l) != n/3 || l[n/3-1] != c[n-3] {
		t.Errorf("%d live entries", len(l))
	}
	wantFind(t, c[n-3:], c[n-1].Name, c[n-1].R, true)
	for except, want := range map[string]int{"": 3, c[n-1].Name: 3, c[n-3].Name: 6} {
		if prio, ok := context.Lowest(g, c, except); prio != want || !ok {
			t.Errorf("except %q: got %d and %v", except, prio, ok)
		}
	}
	if r, ok := context.Find(c, c[n-1].Name); r != c[n-1].R || !ok {
		t.Errorf("got %v and %v", r, ok)
	}
	if l := context.Set(c, c[n-1].Name, ref(0, 7)); len(l) != n || l[n-1].R != ref(0, 7) || !slices.Equal(l[:n-1], c[:n-1]) {
		t.Errorf("%d entries after Set", len(l))
	}
	if l := context.Drop(c, c[0].Name); !slices.Equal(l, c[1:]) {
		t.Errorf("%d entries after Drop", len(l))
	}
}
