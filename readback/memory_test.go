package readback_test

import (
	"fmt"
	"math/rand/v2"
	"reflect"
	"slices"
	"strings"
	"sync"
	"testing"

	"duologue/api"
	"duologue/dual"
	"duologue/equal"
	"duologue/graph"
	"duologue/readback"
	"duologue/show"
	"duologue/typetree"
)

// P12.3

// withRoom returns the list in new memory, with unused capacity that has elements of its own.
func withRoom[E any](l []E, spare ...E) []E {
	return append(slices.Clip(l), spare...)[:len(l)]
}

func roomyGraph(g graph.Graph) graph.Graph {
	g.Nodes = withRoom(g.Nodes, graph.Node{Kind: 77, Next: []graph.Ref{{Node: 1}}}, graph.Node{Kind: 4})
	for i, n := range g.Nodes {
		g.Nodes[i].Labels = withRoom(n.Labels, "l", "spare", "room")
		g.Nodes[i].Next = withRoom(n.Next, graph.Ref{Node: 77}, graph.Ref{Shift: 5})
	}
	return g
}

func roomyType(a api.Type) api.Type {
	a.Labels = withRoom(a.Labels, "l", "spare", "room")
	a.Kids = withRoom(a.Kids, api.Type{Kind: 50, Labels: []string{"l"}}, api.Type{Kind: api.TEnd})
	for i, kid := range a.Kids {
		a.Kids[i] = roomyType(kid)
	}
	return a
}

// eachList calls f with each list in a value, with its unused capacity.
func eachList(v reflect.Value, f func(reflect.Value)) {
	switch v.Kind() {
	case reflect.Struct:
		for i := range v.NumField() {
			eachList(v.Field(i), f)
		}
	case reflect.Slice:
		v = v.Slice(0, v.Cap())
		f(v)
		for i := range v.Len() {
			eachList(v.Index(i), f)
		}
	}
}

// whole shows all that is in the lists of some values, with their unused capacity.
func whole(values ...any) string {
	s := fmt.Sprint(values...)
	for _, v := range values {
		eachList(reflect.ValueOf(v), func(l reflect.Value) { s += fmt.Sprintf("%d %v\n", l.Len(), l) })
	}
	return s
}

// wantNoSharing checks that no two lists in some values share memory.
func wantNoSharing(t *testing.T, values ...any) {
	t.Helper()
	seen := map[uintptr]bool{}
	for _, v := range values {
		eachList(reflect.ValueOf(v), func(l reflect.Value) {
			for i := range l.Len() {
				at := l.Index(i).Addr().Pointer()
				if seen[at] {
					t.Fatalf("%v is in two lists", l)
				}
				seen[at] = true
			}
		})
	}
}

// spoil changes all that is in the lists of a type, and their unused capacity.
func spoil(a *api.Type) {
	for i := range a.Labels {
		a.Labels[i] = "changed"
	}
	for i := range a.Kids {
		spoil(&a.Kids[i])
		a.Kids[i].Kind, a.Kids[i].Prio, a.Kids[i].Name, a.Kids[i].Shift = api.TVar, -1, "changed", -2
	}
	_, _ = append(a.Labels, "more"), append(a.Kids, api.Type{Kind: 66})
}

// spoilGraph changes all that is in a graph.
func spoilGraph(g graph.Graph) {
	for i, n := range g.Nodes {
		for j := range n.Labels {
			n.Labels[j] = "changed"
		}
		for j := range n.Next {
			n.Next[j] = ref(99, -99)
		}
		g.Nodes[i] = graph.Node{Kind: api.TVar}
	}
}

// samples are types with nodes of every Kind, which share no memory.
func samples(t *testing.T) []api.Type {
	t.Helper()
	l := types(t, "int", "rec t.end", everyKind, circles, "rec t.&{b: !1 t+2.t, a: rec u.+{c: u, a: t+1}}", "!(rec t.&{z: t, a: end}).!(rec t.&{z: t, a: end}).end")
	m := &maker{rand.New(rand.NewPCG(12, 3))}
	for range 20 {
		l = append(l, m.types()...)
	}
	for i, a := range l {
		l[i] = typetree.Copy(a)
	}
	return l
}

// graphs are the graphs of samples, closed ones too.
func graphs(t *testing.T) []graph.Graph {
	t.Helper()
	l := samples(t)
	var all []graph.Graph
	for i := range l {
		g, _ := graph.Build(l[i:min(i+3, len(l))])
		all = append(all, g, dual.Close(g))
	}
	return all
}

// results shows all results for a graph.
func results(g graph.Graph) string {
	var s strings.Builder
	for n := range g.Nodes {
		fmt.Fprintln(&s, readback.Text(g, ref(n, 0)), readback.Normal(g, ref(n, 2)))
	}
	return s.String()
}

func TestArgumentsAreNotModified(t *testing.T) {
	for _, g := range graphs(t) {
		want := results(g)
		g = roomyGraph(g)
		before := whole(g)
		// The unused capacity is no part of an argument.
		if got := results(g); got != want {
			t.Errorf("got %s, want %s", got, want)
		}
		if whole(g) != before {
			t.Errorf("%v: the graph was modified", g)
		}
	}
	for _, a := range samples(t) {
		want := readback.Canonical(a)
		a = roomyType(a)
		before := whole(a)
		if got := readback.Canonical(a); !typetree.Same(got, want) {
			t.Errorf("got %s, want %s", show.Type(got), show.Type(want))
		}
		if whole(a) != before {
			t.Errorf("%s: the type was modified", show.Type(a))
		}
	}
}

func TestResultsShareNoMemory(t *testing.T) {
	for _, g := range graphs(t) {
		g = roomyGraph(g)
		for n := range g.Nodes {
			wantNoSharing(t, g, readback.Normal(g, ref(n, 0)), readback.Normal(g, ref(n, 0)))
		}
	}
	for _, a := range samples(t) {
		a = roomyType(a)
		wantNoSharing(t, a, readback.Canonical(a), readback.Canonical(a))
		b := readback.Canonical(a)
		wantNoSharing(t, b, readback.Canonical(b))
	}
}

// A result may be changed without a change of the argument, or of other results.
func TestChangesOfResults(t *testing.T) {
	for _, g := range graphs(t) {
		before := whole(g)
		for n := range g.Nodes {
			first, second := readback.Normal(g, ref(n, 1)), readback.Normal(g, ref(n, 1))
			want := whole(second)
			spoil(&first)
			if whole(g) != before || whole(second) != want {
				t.Errorf("the graph or another result was modified with %s", show.Type(second))
			}
			if got := readback.Normal(g, ref(n, 1)); !typetree.Same(got, second) {
				t.Errorf("a later result is %s, want %s", show.Type(got), show.Type(second))
			}
		}
	}
	for _, a := range samples(t) {
		before := whole(a)
		first, second := readback.Canonical(a), readback.Canonical(a)
		spoil(&first)
		if whole(a) != before || !typetree.Same(readback.Canonical(a), second) {
			t.Errorf("the type or another result was modified with %s", show.Type(second))
		}
	}
}

// A result does not change with the argument later on.
func TestResultsStayWhenArgumentsChange(t *testing.T) {
	for _, g := range graphs(t) {
		var all []api.Type
		for n := range g.Nodes {
			all = append(all, readback.Normal(g, ref(n, 0)))
		}
		before := whole(all)
		spoilGraph(g)
		if whole(all) != before {
			t.Errorf("results were modified with the graph")
		}
	}
	for _, a := range samples(t) {
		got := readback.Canonical(a)
		before := whole(got)
		spoil(&a)
		if whole(got) != before {
			t.Errorf("%s was modified with the type", show.Type(got))
		}
	}
	g, refs := build(t, "rec t.!1 int.t+2")
	wantText(t, g, refs[0], "rec r0.!1 int.r0+2")
	g.Nodes[0].Kind, g.Nodes[0].Prio, g.Nodes[0].Next[1].Shift = api.TRecv, 5, 0
	wantText(t, g, refs[0], "rec r0.?5 int.r0")
}

// Results depend on the arguments only: neither on earlier calls nor on the order of a map.
func TestSameResultsAgain(t *testing.T) {
	for _, g := range graphs(t) {
		want := results(g)
		for range 3 {
			if got := results(g); got != want {
				t.Fatalf("got %s, want %s", got, want)
			}
		}
	}
}

func TestConcurrentCalls(t *testing.T) {
	l := graphs(t)
	var want []string
	for _, g := range l {
		want = append(want, results(g))
	}
	var all sync.WaitGroup
	for range 8 {
		all.Go(func() {
			for i, g := range l {
				if results(g) != want[i] {
					t.Error("another result than that of a single call")
				}
			}
		})
	}
	all.Wait()
}

// Large types: the trees are made in time, however many references there are on the paths.

// wideType returns a type with as many labels as a type can have, in the order that less determines.
func wideType(less func(a, b string) int) api.Type {
	const n = api.MaxNodes - 2
	wide := api.Type{Kind: api.TBranch, Prio: 3}
	for i := range n {
		wide.Labels = append(wide.Labels, fmt.Sprintf("l%d", i))
	}
	slices.SortFunc(wide.Labels, less)
	for _, label := range wide.Labels {
		kid := api.Type{Kind: api.TVar, Name: "r0", Shift: len(label)}
		if label == "l77" {
			kid = api.Type{Kind: api.TEnd}
		}
		wide.Kids = append(wide.Kids, kid)
	}
	return api.Type{Kind: api.TRec, Name: "r0", Kids: []api.Type{wide}}
}

func TestManyLabels(t *testing.T) {
	want := wideType(strings.Compare)
	for _, a := range []api.Type{want, wideType(func(a, b string) int { return strings.Compare(b, a) }), wideType(func(a, b string) int { return len(a) - len(b) })} {
		if typetree.Right(a) != api.OK {
			t.Fatal("not right")
		}
		if got := readback.Canonical(a); !typetree.Same(got, want) {
			t.Error("another normal tree")
		}
	}
}

func TestDeepestTypes(t *testing.T) {
	const n = api.MaxDepth
	wantCanonical(t, strings.Repeat("!int.", n-1)+"end", strings.Repeat("!int.", n-1)+"end")
	wantCanonical(t, strings.Repeat("!1 int.", n-2)+"rec t.end", strings.Repeat("!1 int.", n-2)+"end")
	wantCanonical(t, "rec t."+strings.Repeat("!int.", n-2)+"t", "rec r0.!int.r0")
	wantCanonical(t, "rec t."+strings.Repeat("!int.", n-2)+"t+1", "rec r0."+strings.Repeat("!int.", n-2)+"r0+1")
	wantCanonical(t, "rec t."+strings.Repeat("!(", n-2)+"t+1"+strings.Repeat(").end", n-2), "rec r0."+strings.Repeat("!(", n-2)+"r0+1"+strings.Repeat(").end", n-2))
	wantCanonical(t, strings.Repeat("rec t.", n-1)+"end", "end")
}

// binary makes a type that selects one of two labels again and again, of about n actions. Each rest that is no new
// action is an action around it, by chance.
func (m *maker) binary(n, depth int, around []string) api.Type {
	if n <= 0 || depth > 40 {
		return api.Type{Kind: api.TVar, Name: around[m.IntN(len(around))]}
	}
	name := fmt.Sprintf("t%d", depth)
	around = append(slices.Clip(around), name)
	left := m.IntN(n)
	a := api.Type{Kind: api.TSelect, Labels: []string{"l", "r"}, Kids: []api.Type{m.binary(left, depth+1, around), m.binary(n-1-left, depth+1, around)}}
	return api.Type{Kind: api.TRec, Name: name, Kids: []api.Type{a}}
}

// All actions are equal, or nearly so: only one reference has a Shift.
func TestManyActions(t *testing.T) {
	m := &maker{rand.New(rand.NewPCG(12, 4))}
	for range 5 {
		a := m.binary(3000, 0, nil)
		if got := show.Type(readback.Canonical(a)); got != "rec r0.+{l: r0, r: r0}" {
			t.Errorf("got %s", got)
		}
		last := &a
		for last.Kind != api.TVar {
			last = &last.Kids[len(last.Kids)-1]
		}
		last.Shift = 1
		got := readback.Canonical(a)
		g, refs := graph.Build([]api.Type{a, got})
		if typetree.Right(a) != api.OK || typetree.Right(got) != api.OK || typetree.Size(got) < 1000 || !equal.Equal(g, refs[0], refs[1]) {
			t.Errorf("a normal tree of %d nodes: not right, or not equal", typetree.Size(got))
		}
		if again := readback.Canonical(got); !typetree.Same(again, got) {
			t.Error("another tree of the normal tree")
		}
	}
}

// Each level has a long type that is the same on all levels.
func TestManyNodesBehindEachReference(t *testing.T) {
	same := fmt.Sprintf("+{l: %send, m: %send}", strings.Repeat("!int.", 24), strings.Repeat("!int.", 24))
	source := "end"
	for i := range 73 {
		source = fmt.Sprintf("&{%s: %s, b: %s}", string("ac"[i%2]), source, same)
	}
	a := types(t, source)[0]
	got := readback.Canonical(a)
	g, refs := graph.Build([]api.Type{a, got})
	if !equal.Equal(g, refs[0], refs[1]) || typetree.Size(got) != typetree.Size(a) || !typetree.Same(readback.Canonical(got), got) {
		t.Error("another tree")
	}
}

// ladder returns the text of a type in which the way back from each step leads to the step before it only: the normal tree
// of the last step is much deeper than the type.
func ladder(steps, i int) string {
	if i > steps {
		return "end"
	}
	back := "end"
	if i > 1 {
		back = fmt.Sprintf("t%d", i-1)
	}
	return fmt.Sprintf("rec t%d.&{n: %s, c: %s%s}", i, ladder(steps, i+1), rungs(i), back)
}

// rungs returns the text of the actions on the way back from a step.
func rungs(i int) string {
	return strings.Repeat("!int.", 96-2*i)
}

// ladderTree returns the text of the normal tree of a step, which has an index on the path; that of the step after it is the one in front.
func ladderTree(i, index int, front string) string {
	if i == 1 {
		return fmt.Sprintf("&{c: %send, n: %s}", rungs(i), front)
	}
	return fmt.Sprintf("rec r%d.&{c: %s%s, n: %s}", index, rungs(i), ladderTree(i-1, index+97-2*i, fmt.Sprintf("r%d", index)), front)
}

func TestTreesThatAreDeeperThanTheType(t *testing.T) {
	for _, n := range []int{1, 2, 5, 47} {
		g, _ := build(t, ladder(n, 1))
		for _, g := range []graph.Graph{g, dual.Close(g)} {
			step := -1
			for i, node := range g.Nodes {
				if node.Kind == api.TBranch {
					step = i
				}
			}
			if got := readback.Text(g, ref(step, 0)); got != ladderTree(n, 0, "end") {
				t.Errorf("%d steps: got another text", n)
			}
		}
	}
}

// The results for each of many types do not take as long as those for all of them.
func TestManyTypes(t *testing.T) {
	l := types(t, circles, everyKind, "rec t.!int.!1 int.t+2", "rec t.&{b: t, a: rec u.!u.end}")
	g, refs := graph.Build(slices.Repeat(l, 2500))
	for i, r := range refs {
		if got := readback.Normal(g, r); !typetree.Same(got, readback.Canonical(l[i%len(l)])) {
			t.Fatalf("%v: got %s", r, show.Type(got))
		}
	}
}
