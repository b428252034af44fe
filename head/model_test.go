package head_test

import (
	"cmp"
	"maps"
	"math/rand/v2"
	"slices"
	"strings"
	"testing"

	"duologue/api"
	"duologue/graph"
	"duologue/head"
	"duologue/show"
	"duologue/typetree"
)

// The tests of this file find the results in another way than the package: from trees that layer 2 unfolds and raises.

// isAction reports whether a type has a priority.
func isAction(a api.Type) bool {
	return strings.Contains("!?+&", show.Type(a)[:1])
}

// wantLikeTree checks the results for a reference to the type a, and for those behind it down to a depth.
// The path leads there from the reference first. It returns the number of references that were compared.
func wantLikeTree(t *testing.T, g graph.Graph, a api.Type, r, first graph.Ref, path []int, depth int) int {
	t.Helper()
	if a.Kind == api.TRec && typetree.Size(a) > 200 {
		return 0
	}
	a = typetree.Unfold(a)
	if head.Kind(g, r) != a.Kind {
		t.Fatalf("%s: got the Kind %d", show.Type(a), head.Kind(g, r))
	}
	wantPrio(t, g, r, a.Prio, isAction(a))
	wantLowest(t, g, []graph.Ref{r, r}, a.Prio, isAction(a))
	wantLabels(t, g, r, slices.SortedFunc(slices.Values(a.Labels), cmp.Compare)...)
	wantAfter(t, g, first, path, r, true)
	n := len(a.Kids)
	wantAfter(t, g, first, append(slices.Clip(path), n), graph.Ref{}, false)
	wantNext(t, g, r, n, graph.Ref{}, false)
	wantNext(t, g, r, -1, graph.Ref{}, false)
	wantLabel(t, g, r, "none", graph.Ref{}, false)
	if depth == 0 || t.Failed() {
		return 1
	}
	compared := 1
	for i, kid := range a.Kids {
		next, ok := head.Next(g, r, i)
		if !ok {
			t.Fatalf("%s: no Next with the index %d", show.Type(a), i)
		}
		if i < len(a.Labels) {
			wantLabel(t, g, r, a.Labels[i], next, true)
		}
		compared += wantLikeTree(t, g, kid, next, first, append(slices.Clip(path), i), depth-1)
	}
	return compared
}

// wantLikeTrees checks the results for a list of types in one graph, each raised by a number.
func wantLikeTrees(t *testing.T, l []api.Type, k, depth int) int {
	t.Helper()
	g, refs := graph.Build(l)
	compared := 0
	for i, a := range l {
		r := head.Raise(refs[i], k)
		compared += wantLikeTree(t, g, typetree.Raise(a, k), r, r, nil, depth)
		if t.Failed() {
			t.Fatalf("in %s, raised by %d", show.Type(a), k)
		}
	}
	wantLowestOfAll(t, l, g, refs)
	return compared
}

// wantLowestOfAll checks Lowest against the least number in a list of numbers that is sorted.
func wantLowestOfAll(t *testing.T, l []api.Type, g graph.Graph, refs []graph.Ref) {
	t.Helper()
	var prios []int
	for i, a := range l {
		if typetree.Size(a) > 200 {
			return
		}
		if a = typetree.Unfold(a); isAction(a) {
			prios = append(prios, a.Prio-i)
		}
		refs[i].Shift -= i
	}
	slices.Sort(prios)
	wantLowest(t, g, refs, append(prios, 0)[0], len(prios) > 0)
}

func TestReferencesLikeTrees(t *testing.T) {
	l := types(t, everyKind, circles, actions, "rec t.!1 int.t+2", "rec t.!1 (t+3).rec u.&2 {b: t+10, a: rec v.?3 (u+100).v+1000}",
		"rec t.rec u.rec v.!4 (rec t.?(u+6).t+1).&{a: u+2, B: v+3}", "rec t.+5 {z: rec u.t+1, y: t, x: rec t.?int.t+7}", "!(!bool.end).end", "int", "rec t.end")
	for _, k := range []int{0, 5, -3, 1000000} {
		if n := wantLikeTrees(t, l, k, 6); n < 300 {
			t.Errorf("%d references", n)
		}
	}
}

// maker makes right types by chance.
type maker struct{ *rand.Rand }

// session makes a session type; bound has the names in scope, and whether an action is between.
func (m *maker) session(depth int, bound map[string]bool) api.Type {
	name, chance := string("tuv"[m.IntN(3)]), m.IntN(12)
	if bound[name] && (chance < 4 || depth == 0) {
		return api.Type{Kind: api.TVar, Name: name, Shift: m.IntN(3) * m.IntN(500)}
	}
	if depth == 0 || chance == 4 {
		return api.Type{Kind: api.TEnd}
	}
	below := maps.Clone(bound)
	if chance < 8 {
		below[name] = false
		return api.Type{Kind: api.TRec, Name: name, Kids: []api.Type{m.session(depth-1, below)}}
	}
	for s := range bound {
		below[s] = true
	}
	a := api.Type{Kind: api.TSend + m.IntN(4), Prio: m.IntN(1000)}
	if a.Kind < api.TSelect {
		a.Kids = []api.Type{m.payload(depth-1, below), m.session(depth-1, below)}
		return a
	}
	for _, i := range m.Perm(5)[:1+m.IntN(4)] {
		a.Labels = append(a.Labels, []string{"l", "M", "n10", "n2", "n"}[i])
		a.Kids = append(a.Kids, m.session(depth-1, below))
	}
	return a
}

// payload makes a type of any Kind.
func (m *maker) payload(depth int, bound map[string]bool) api.Type {
	if m.IntN(2) == 0 {
		return api.Type{Kind: api.TInt + m.IntN(2)}
	}
	return m.session(depth, bound)
}

func TestTypesMadeByChance(t *testing.T) {
	m := &maker{rand.New(rand.NewPCG(8, 1))}
	compared := 0
	for range 2000 {
		var l []api.Type
		for range m.IntN(5) {
			a := m.payload(1+m.IntN(9), map[string]bool{})
			if typetree.Right(a) != api.OK {
				t.Fatalf("%s: not right", show.Type(a))
			}
			l = append(l, a)
		}
		compared += wantLikeTrees(t, l, m.IntN(3)*m.IntN(100), 4)
		g, _ := graph.Build(l)
		for n := range g.Nodes {
			wantRaised(t, g, ref(n, m.IntN(9)-4), m.IntN(99)-49)
		}
	}
	if compared < 20000 {
		t.Errorf("%d references", compared)
	}
}
