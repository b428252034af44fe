package graph_test

import (
	"fmt"
	"maps"
	"math/rand/v2"
	"slices"
	"strings"
	"testing"

	"duologue/api"
	"duologue/graph"
	"duologue/typetree"
)

// The functions of this file find the results in another way than the package: from a list of all nodes, with the nodes around each.

// spot is a node of a type, with the spots around it, from the outermost one on.
type spot struct {
	node   api.Type
	around []*spot
	kids   []*spot
	number int // of the node of the graph, if it became one
}

// spotsOf lists the nodes of types, each before its Kids, and numbers those that become nodes of the graph.
func spotsOf(l []api.Type) (all, first []*spot) {
	var list func(a api.Type, around []*spot) *spot
	list = func(a api.Type, around []*spot) *spot {
		s := &spot{node: a, around: around}
		all = append(all, s)
		for _, kid := range a.Kids {
			s.kids = append(s.kids, list(kid, append(slices.Clip(around), s)))
		}
		return s
	}
	for _, a := range l {
		first = append(first, list(a, nil))
	}
	n := 0
	for _, s := range all {
		if s.node.Kind != api.TRec && s.node.Kind != api.TVar {
			s.number = n
			n++
		}
	}
	return all, first
}

// binder is the innermost TRec around a TVar that has its name.
func (s *spot) binder() *spot {
	for _, o := range slices.Backward(s.around) {
		if o.node.Kind == api.TRec && o.node.Name == s.node.Name {
			return o
		}
	}
	panic("a variable that is not bound")
}

func (s *spot) ref() graph.Ref {
	switch s.node.Kind {
	case api.TRec:
		return s.kids[0].ref()
	case api.TVar:
		r := s.binder().ref()
		r.Shift += s.node.Shift
		return r
	}
	return graph.Ref{Node: s.number}
}

func refsOf(l []*spot) []graph.Ref {
	var refs []graph.Ref
	for _, s := range l {
		refs = append(refs, s.ref())
	}
	return refs
}

// modelOf is Build in another way.
func modelOf(l []api.Type) (graph.Graph, []graph.Ref) {
	all, first := spotsOf(l)
	var g graph.Graph
	for _, s := range all {
		if s.node.Kind != api.TRec && s.node.Kind != api.TVar {
			g.Nodes = append(g.Nodes, graph.Node{Kind: s.node.Kind, Prio: s.node.Prio, Labels: s.node.Labels, Next: refsOf(s.kids)})
		}
	}
	return g, refsOf(first)
}

func sameNode(a, b graph.Node) bool {
	return a.Kind == b.Kind && a.Prio == b.Prio && slices.Equal(a.Labels, b.Labels) && slices.Equal(a.Next, b.Next)
}

// wantLikeModel checks the graph of a list of types, and returns it.
func wantLikeModel(t *testing.T, l []api.Type) (graph.Graph, []graph.Ref) {
	t.Helper()
	g, refs := graph.Build(l)
	wantG, wantRefs := modelOf(l)
	if !slices.EqualFunc(g.Nodes, wantG.Nodes, sameNode) {
		t.Fatalf("%s: got the nodes %s, want %s", typeTexts(l), short(graphText(g)), short(graphText(wantG)))
	}
	if !slices.Equal(refs, wantRefs) {
		t.Fatalf("%s: got the references %v, want %v", typeTexts(l), refs, wantRefs)
	}
	return g, refs
}

// reachModel is Reach in another way: in rounds over all nodes, until nothing is new.
func reachModel(g graph.Graph, r graph.Ref) []int {
	reached := map[int]bool{r.Node: true}
	for before := 0; before < len(reached); {
		before = len(reached)
		for i, n := range g.Nodes {
			for _, next := range n.Next {
				if reached[i] {
					reached[next.Node] = true
				}
			}
		}
	}
	return slices.Sorted(maps.Keys(reached))
}

// action reports whether a type has a priority.
func action(kind int) bool {
	return slices.Contains([]int{api.TSend, api.TRecv, api.TSelect, api.TBranch}, kind)
}

// treeOfRef shows the infinite tree of a reference, down to a depth.
func treeOfRef(g graph.Graph, r graph.Ref, depth int) string {
	if depth == 0 {
		return "_"
	}
	n := g.Nodes[r.Node]
	if action(n.Kind) {
		n.Prio += r.Shift
	}
	parts := []string{fmt.Sprint(n.Kind, n.Prio, n.Labels)}
	for _, next := range n.Next {
		parts = append(parts, treeOfRef(g, graph.Ref{Node: next.Node, Shift: next.Shift + r.Shift}, depth-1))
	}
	return strings.Join(parts, "(") + strings.Repeat(")", len(n.Next))
}

// treeOfType shows the infinite tree of a type, down to a depth, where TRecs are unfolded by layer 2.
// It is "" if an unfolding is of a type that is too large for that.
func treeOfType(a api.Type, depth int) string {
	if depth == 0 {
		return "_"
	}
	if a.Kind == api.TRec {
		if typetree.Size(a) > 200 {
			return ""
		}
		a = typetree.Unfold(a)
	}
	parts := []string{fmt.Sprint(a.Kind, a.Prio, a.Labels)}
	for _, kid := range a.Kids {
		s := treeOfType(kid, depth-1)
		if s == "" {
			return ""
		}
		parts = append(parts, s)
	}
	return strings.Join(parts, "(") + strings.Repeat(")", len(a.Kids))
}

// P7.4

// wantTree checks that a type and its reference have the same infinite tree, and reports whether the tree was found.
func wantTree(t *testing.T, a api.Type, g graph.Graph, r graph.Ref, depth int) bool {
	t.Helper()
	want := treeOfType(a, depth)
	if got := treeOfRef(g, r, depth); want != "" && got != want {
		t.Fatalf("%s: got the tree %s, want %s", typeTexts([]api.Type{a}), got, want)
	}
	return want != ""
}

func TestTreesAlongPaths(t *testing.T) {
	l := types(t, "rec t.!0 int.t+2", "rec t.!1 (t+3).rec u.&2 {a: t+10, b: rec v.?3 (u+100).v+1000}", "rec t.+5 {a: rec u.t+1, b: t, c: rec t.?int.t+7}", "rec t.rec u.rec v.!4 (rec t.?(u+6).t+1).&{a: u+2, b: v+3}", "!(!bool.end).end", "int")
	g, refs := graph.Build(l)
	for i, a := range l {
		for depth := range 6 {
			if !wantTree(t, a, g, refs[i], depth) && depth < 4 {
				t.Errorf("%s: no tree of the depth %d", typeTexts(l[i:i+1]), depth)
			}
		}
	}
}

// rightTypes are all right types up to a depth of 4 over some leaves, and some of the depth 5.
func rightTypes() []api.Type {
	node := func(kind, prio int, labels string, kids ...api.Type) api.Type {
		return api.Type{Kind: kind, Prio: prio, Labels: strings.Fields(labels), Kids: kids}
	}
	rec := func(name string, a api.Type) api.Type {
		return api.Type{Kind: api.TRec, Name: name, Kids: []api.Type{a}}
	}
	above := func(l []api.Type) []api.Type {
		var m []api.Type
		for _, a := range l {
			m = append(m, rec("t", a), rec("u", a), node(api.TSelect, 4, "l", a))
			for _, b := range l {
				m = append(m, node(api.TSend, 1, "", a, b), node(api.TRecv, 2, "", a, b), node(api.TBranch, 3, "m l", a, b))
			}
		}
		return m
	}
	leaves := []api.Type{{Kind: api.TInt}, {Kind: api.TEnd}, {Kind: api.TVar, Name: "t", Shift: 1}, {Kind: api.TVar, Name: "u", Shift: 20}}
	low := append(slices.Clip(leaves), above(leaves)...)
	all := low
	for _, a := range above(low) {
		all = append(all, a, rec("t", a), rec("u", rec("t", a)))
	}
	return slices.DeleteFunc(all, func(a api.Type) bool { return typetree.Right(a) != api.OK })
}

func TestSmallTypes(t *testing.T) {
	l := rightTypes()
	found := 0
	for i, a := range l {
		g, refs := wantLikeModel(t, []api.Type{a})
		if i%7 == 0 && wantTree(t, a, g, refs[0], 4) {
			found++
		}
		for n := range g.Nodes {
			wantReach(t, g, graph.Ref{Node: n}, reachModel(g, graph.Ref{Node: n})...)
		}
	}
	wantLikeModel(t, l)
	if len(l) < 2000 || found < 300 {
		t.Errorf("%d types, and %d trees", len(l), found)
	}
}

// maker makes right types by chance.
type maker struct{ *rand.Rand }

func (m *maker) name() string {
	return string("tuv"[m.IntN(3)])
}

// payload makes a type of any Kind.
func (m *maker) payload(depth int, bound map[string]bool) api.Type {
	if m.IntN(2) == 0 {
		return api.Type{Kind: api.TInt + m.IntN(2)}
	}
	return m.session(depth, bound)
}

// session makes a session type; bound has the names in scope, and whether an action is between.
func (m *maker) session(depth int, bound map[string]bool) api.Type {
	name, chance := m.name(), m.IntN(12)
	if bound[name] && (chance < 4 || depth == 0) {
		return api.Type{Kind: api.TVar, Name: name, Shift: m.IntN(3) * m.IntN(500)}
	}
	if depth == 0 || chance == 4 {
		return api.Type{Kind: api.TEnd}
	}
	below := maps.Clone(bound)
	if chance < 8 {
		below[name] = false
		return api.Type{Kind: api.TRec, Name: name, Kids: []api.Type{m.session(depth-1, below)}}
	}
	for s := range below {
		below[s] = true
	}
	a := api.Type{Kind: api.TSend + m.IntN(4), Prio: m.IntN(1000)}
	if a.Kind < api.TSelect {
		a.Kids = []api.Type{m.payload(depth-1, below), m.session(depth-1, below)}
		return a
	}
	for _, i := range m.Perm(4)[:1+m.IntN(3)] {
		a.Labels = append(a.Labels, string("lmnk"[i]))
		a.Kids = append(a.Kids, m.session(depth-1, below))
	}
	return a
}

// types makes a list of types, some of which occur more than once.
func (m *maker) types() []api.Type {
	var l []api.Type
	for range m.IntN(6) {
		a := m.payload(1+m.IntN(14), map[string]bool{})
		l = append(l, slices.Repeat([]api.Type{a}, 1+m.IntN(5)/4)...)
	}
	m.Shuffle(len(l), func(i, j int) { l[i], l[j] = l[j], l[i] })
	return l
}

func TestTypesMadeByChance(t *testing.T) {
	m := &maker{rand.New(rand.NewPCG(7, 1))}
	largest, shifted, trees := 0, 0, 0
	for range 3000 {
		l := m.types()
		for _, a := range l {
			if typetree.Right(a) != api.OK {
				t.Fatalf("%s: not right", typeTexts([]api.Type{a}))
			}
		}
		g, refs := wantLikeModel(t, l)
		largest = max(largest, len(g.Nodes))
		for i, r := range refs {
			if wantTree(t, l[i], g, r, 4) {
				trees++
			}
		}
		for n, node := range g.Nodes {
			wantReach(t, g, graph.Ref{Node: n}, reachModel(g, graph.Ref{Node: n})...)
			if slices.ContainsFunc(node.Next, func(r graph.Ref) bool { return r.Shift > 0 }) {
				shifted++
			}
		}
	}
	if largest < 130 || shifted < 1000 || trees < 3000 {
		t.Errorf("at most %d nodes, %d with a Shift, and %d trees", largest, shifted, trees)
	}
}
