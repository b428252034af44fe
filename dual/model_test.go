package dual_test

import (
	"fmt"
	"maps"
	"math/rand/v2"
	"slices"
	"strings"
	"testing"

	"duologue/api"
	"duologue/dual"
	"duologue/graph"
	"duologue/show"
	"duologue/typetree"
)

// The tests of this file find the results in another way than the package: from the text of P9.1, and from trees that layer 2 unfolds.

// dualSigns has the signs of the Kinds and those of their duals.
var dualSigns = map[string]string{"!": "?", "?": "!", "+": "&", "&": "+", "int": "int", "bool": "bool", "end": "end"}

// wantClosed checks each node of a closed graph.
func wantClosed(t *testing.T, g, closed graph.Graph) {
	t.Helper()
	n := len(g.Nodes)
	if len(closed.Nodes) != 2*n {
		t.Fatalf("got %d nodes, want two for each of %d", len(closed.Nodes), n)
	}
	for i, node := range g.Nodes {
		if got, want := nodeText(closed.Nodes[i]), nodeText(node); got != want {
			t.Fatalf("node %d: got %s, want %s", i, got, want)
		}
		sign := signs[node.Kind]
		want := graph.Node{Kind: slices.Index(signs, dualSigns[sign]), Prio: node.Prio, Labels: node.Labels}
		for j, r := range node.Next {
			if j > 0 || sign == "+" || sign == "&" {
				r = ref(n+r.Node, r.Shift)
			}
			want.Next = append(want.Next, r)
		}
		if got, want := nodeText(closed.Nodes[n+i]), nodeText(want); got != want {
			t.Fatalf("dual of the node %d of %d: got %s, want %s", i, n, got, want)
		}
	}
}

// firstText shows the first node of a tree.
func firstText(sign string, prio int, labels []string) string {
	if sign == "int" || sign == "bool" || sign == "end" {
		return sign
	}
	return fmt.Sprintf("%s%d%q", sign, prio, labels)
}

// treeOfRef shows the infinite tree of a reference, down to a depth.
func treeOfRef(g graph.Graph, r graph.Ref, depth int) string {
	if depth == 0 {
		return "_"
	}
	n := g.Nodes[r.Node]
	parts := []string{firstText(signs[n.Kind], n.Prio+r.Shift, n.Labels)}
	for _, next := range n.Next {
		parts = append(parts, treeOfRef(g, ref(next.Node, next.Shift+r.Shift), depth-1))
	}
	return strings.Join(parts, "(") + strings.Repeat(")", len(n.Next))
}

// treeOfType shows the infinite tree of a type, or the dual of that tree, down to a depth.
// It is "" if a TRec in it is too large to be unfolded.
func treeOfType(a api.Type, isDual bool, depth int) string {
	if depth == 0 {
		return "_"
	}
	if a.Kind == api.TRec && typetree.Size(a) > 200 {
		return ""
	}
	a = typetree.Unfold(a)
	sign := signs[a.Kind]
	if isDual {
		sign = dualSigns[sign]
	}
	parts := []string{firstText(sign, a.Prio, a.Labels)}
	for i, kid := range a.Kids {
		isPayload := i == 0 && len(a.Labels) == 0
		s := treeOfType(kid, isDual && !isPayload, depth-1)
		if s == "" {
			return ""
		}
		parts = append(parts, s)
	}
	return strings.Join(parts, "(") + strings.Repeat(")", len(a.Kids))
}

// wantTrees checks the trees of references to types and to their duals, and returns the number of those that were compared.
func wantTrees(t *testing.T, l []api.Type, k, depth int) int {
	t.Helper()
	g, refs := graph.Build(l)
	closed := dual.Close(g)
	wantClosed(t, g, closed)
	compared := 0
	for i, a := range l {
		r := ref(refs[i].Node, refs[i].Shift+k)
		raised := typetree.Raise(a, k)
		for _, isDual := range []bool{false, true} {
			want := treeOfType(raised, isDual, depth)
			if want == "" {
				continue
			}
			compared++
			if got := treeOfRef(closed, r, depth); got != want {
				t.Fatalf("%s, raised by %d, the dual: %v: got the tree %s, want %s", show.Type(a), k, isDual, got, want)
			}
			r = dual.Of(closed, r)
		}
	}
	return compared
}

func TestTreesOfDuals(t *testing.T) {
	l := types(t, everyKind, circles, "rec t.!3 (?1 int.end).t+1", "rec t.!1 (t+3).rec u.&2 {b: t+10, a: rec v.?3 (u+100).v+1000}",
		"rec t.rec u.rec v.!4 (rec t.?(u+6).t+1).&{a: u+2, B: v+3}", "rec t.+5 {z: rec u.t+1, y: t, x: rec t.?int.t+7}", "!(!bool.end).end", "rec t.?(t).t", "end", "rec t.end")
	for _, k := range []int{0, 5, -3, 1000000} {
		for depth := 1; depth < 7; depth++ {
			if n := wantTrees(t, l, k, depth); n != 2*len(l) {
				t.Errorf("%d trees", n)
			}
		}
	}
}

// Duals that are written as types; a payload that refers to the type around is that type, and not its dual.
func TestDualsThatAreTypes(t *testing.T) {
	for _, x := range [][2]string{
		{"rec t.!3 (?1 int.end).t+1", "rec t.?3 (?1 int.end).t+1"},
		{"rec t.!(?int.end).t", "rec t.?(?int.end).t"},
		{"+{a: end, b: ?int.end}", "&{a: end, b: !int.end}"},
		{"rec t.!(t+1).t+2", "rec t.?(rec u.!1 (u+1).u+2).t+2"},
		{"end", "end"},
	} {
		l := types(t, x[0], x[1])
		for i, a := range l {
			g, refs := graph.Build(l[i : i+1])
			closed := dual.Close(g)
			if got, want := treeOfRef(closed, dual.Of(closed, refs[0]), 6), treeOfType(l[1-i], false, 6); got != want {
				t.Errorf("%s: got %s, want %s", show.Type(a), got, want)
			}
		}
	}
}

// maker makes right types by chance.
type maker struct{ *rand.Rand }

// session makes a session type; bound has the names in scope, and whether an action is between.
func (m *maker) session(depth int, bound map[string]bool) api.Type {
	name, chance := string("tuv"[m.IntN(3)]), m.IntN(12)
	if bound[name] && (chance < 4 || depth == 0) {
		return api.Type{Kind: api.TVar, Name: name, Shift: m.IntN(3) * m.IntN(500)}
	}
	if depth == 0 || chance == 4 {
		return api.Type{Kind: api.TEnd}
	}
	below := maps.Clone(bound)
	if chance < 8 {
		below[name] = false
		return api.Type{Kind: api.TRec, Name: name, Kids: []api.Type{m.session(depth-1, below)}}
	}
	for s := range bound {
		below[s] = true
	}
	a := api.Type{Kind: api.TSend + m.IntN(4), Prio: m.IntN(1000)}
	if a.Kind < api.TSelect {
		a.Kids = []api.Type{m.payload(depth-1, below), m.session(depth-1, below)}
		return a
	}
	for _, i := range m.Perm(5)[:1+m.IntN(4)] {
		a.Labels = append(a.Labels, []string{"l", "M", "n10", "n2", "n"}[i])
		a.Kids = append(a.Kids, m.session(depth-1, below))
	}
	return a
}

// payload makes a type of any Kind.
func (m *maker) payload(depth int, bound map[string]bool) api.Type {
	if m.IntN(2) == 0 {
		return api.Type{Kind: api.TInt + m.IntN(2)}
	}
	return m.session(depth, bound)
}

// types makes a list of types.
func (m *maker) types() []api.Type {
	var l []api.Type
	for range m.IntN(5) {
		l = append(l, m.payload(1+m.IntN(9), map[string]bool{}))
	}
	return l
}

func TestTypesMadeByChance(t *testing.T) {
	m := &maker{rand.New(rand.NewPCG(9, 1))}
	compared := 0
	for range 3000 {
		l := m.types()
		for _, a := range l {
			if typetree.Right(a) != api.OK {
				t.Fatalf("%s: not right", show.Type(a))
			}
		}
		compared += wantTrees(t, l, m.IntN(3)*m.IntN(100), 1+m.IntN(5))
		g, _ := graph.Build(l)
		n := len(g.Nodes)
		closed := dual.Close(g)
		for i := range n {
			k := m.IntN(99) - 49
			wantOf(t, closed, ref(i, k), ref(n+i, k))
			wantOf(t, closed, ref(n+i, k), ref(i, k))
		}
	}
	if compared < 8000 {
		t.Errorf("%d trees", compared)
	}
}
