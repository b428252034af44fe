package equal_test

import (
	"fmt"
	"maps"
	"math/rand/v2"
	"slices"
	"strings"
	"testing"

	"duologue/api"
	"duologue/dual"
	"duologue/equal"
	"duologue/graph"
	"duologue/show"
	"duologue/typetree"
)

// The tests of this file find the results in another way than the package: from all pairs of nodes, of which those are
// struck out step by step that cannot be equal, and from trees that layer 2 unfolds.

// pairs tells for each two nodes of a graph after how many steps they are found not to be equal when one of them is
// raised to the priority of the other, or never.
type pairs [][]int

const never = -1

// firstText shows the first node of a tree, without its priority.
func firstText(kind int, labels []string) string {
	return fmt.Sprint(kind, slices.Sorted(slices.Values(labels)))
}

// follow returns the reference behind a node with a label, or with an index if there are no labels.
func follow(n graph.Node, label string, i int) graph.Ref {
	if len(n.Labels) > 0 {
		i = slices.Index(n.Labels, label)
	}
	return n.Next[i]
}

// labelAt returns the label with an index of a node, or "" if it has no labels.
func labelAt(n graph.Node, i int) string {
	if len(n.Labels) > 0 {
		return n.Labels[i]
	}
	return ""
}

// difference returns by how much the priority of a reference b is greater than that of a; only actions have one.
func difference(g graph.Graph, a, b graph.Ref) int {
	x, y := g.Nodes[a.Node], g.Nodes[b.Node]
	if x.Kind < api.TSend || y.Kind < api.TSend {
		return 0
	}
	return y.Prio + b.Shift - x.Prio - a.Shift
}

// struck reports whether the nodes behind a and b, which begin alike, cannot be equal.
func (p pairs) struck(g graph.Graph, a, b int, withPrios bool) bool {
	x, y := g.Nodes[a], g.Nodes[b]
	for i, r := range x.Next {
		s := follow(y, labelAt(x, i), i)
		if p[r.Node][s.Node] != never {
			return true
		}
		isAction := g.Nodes[r.Node].Kind >= api.TSend
		if withPrios && isAction && difference(g, r, s) != difference(g, ref(a, 0), ref(b, 0)) {
			return true
		}
	}
	return false
}

// strikeOut returns the pairs of a graph, where the priorities count or do not.
func strikeOut(g graph.Graph, withPrios bool) pairs {
	n := len(g.Nodes)
	p := make(pairs, n)
	for a, x := range g.Nodes {
		p[a] = slices.Repeat([]int{never}, n)
		for b, y := range g.Nodes {
			if firstText(x.Kind, x.Labels) != firstText(y.Kind, y.Labels) {
				p[a][b] = 0
			}
		}
	}
	for step := 1; ; step++ {
		var out [][2]int
		for a := range n {
			for b := range n {
				if p[a][b] == never && p.struck(g, a, b, withPrios) {
					out = append(out, [2]int{a, b})
				}
			}
		}
		if len(out) == 0 {
			return p
		}
		for _, x := range out {
			p[x[0]][x[1]] = step
		}
	}
}

// model has the pairs of a graph with and without priorities.
type model struct {
	g                  graph.Graph
	withPrios, without pairs
}

func newModel(g graph.Graph) model {
	return model{g, strikeOut(g, true), strikeOut(g, false)}
}

// verdict returns the verdict for two references.
func (m model) verdict(a, b graph.Ref) verdict {
	v := verdict{alike: m.without[a.Node][b.Node] == never, ok: m.withPrios[a.Node][b.Node] == never}
	if v.ok {
		v.k = difference(m.g, a, b)
	}
	return v
}

// classes returns the least node that is equal, for each node.
func (m model) classes() []int {
	var l []int
	for a := range m.g.Nodes {
		for b := range m.g.Nodes {
			if m.verdict(ref(a, 0), ref(b, 0)) == same {
				l = append(l, b)
				break
			}
		}
	}
	return l
}

// counts has the numbers of verdicts that were compared.
type counts struct{ equal, raised, alike, other int }

func (c *counts) add(v verdict) {
	switch {
	case v == same:
		c.equal++
	case v.ok:
		c.raised++
	case v.alike:
		c.alike++
	default:
		c.other++
	}
}

// wantLikeModel checks the results for all pairs of nodes of a graph, with two shifts.
func wantLikeModel(t *testing.T, g graph.Graph, k, l int, c *counts) {
	t.Helper()
	m := newModel(g)
	for a := range g.Nodes {
		for b := range g.Nodes {
			want := m.verdict(ref(a, k), ref(b, l))
			wantCalls(t, g, ref(a, k), ref(b, l), want)
			c.add(want)
		}
	}
	wantClasses(t, g, m.classes()...)
}

func TestLikeAllPairs(t *testing.T) {
	var all []string
	for _, group := range equalGroups {
		all = append(all, group...)
	}
	var c counts
	for _, sources := range [][]string{all, {everyKind, circles}, {circle("iib"), circle("iibiib"), chain("iibii", circle("bii"))},
		{circle("012"), circle("0123"), circle("123"), chain("012", circle("012"))}, {"rec t.!(t).t", "rec t.!(!(t).t).!(t+1).t", "rec t.?(t).t"}} {
		g, _ := build(t, sources...)
		for _, k := range []int{0, 1, -7} {
			wantLikeModel(t, g, 0, k, &c)
			wantLikeModel(t, dual.Close(g), k, 0, &c)
		}
	}
	if c.equal < 1000 || c.raised < 1000 || c.alike < 200 || c.other < 1000 {
		t.Errorf("%+v", c)
	}
}

// maker makes right types by chance, with few Kinds of nodes, so that many of them are equal.
type maker struct{ *rand.Rand }

// session makes a session type; bound has the names in scope, and whether an action is between.
func (m *maker) session(depth int, bound map[string]bool) api.Type {
	name, chance := string("tu"[m.IntN(2)]), m.IntN(12)
	if bound[name] && (chance < 5 || depth == 0) {
		return api.Type{Kind: api.TVar, Name: name, Shift: m.IntN(4) / 3}
	}
	if depth == 0 || chance == 5 {
		return api.Type{Kind: api.TEnd}
	}
	below := maps.Clone(bound)
	if chance < 9 {
		below[name] = false
		return api.Type{Kind: api.TRec, Name: name, Kids: []api.Type{m.session(depth-1, below)}}
	}
	for s := range bound {
		below[s] = true
	}
	a := api.Type{Kind: api.TSend + m.IntN(4), Prio: m.IntN(5) / 4}
	if a.Kind < api.TSelect {
		a.Kids = []api.Type{m.payload(depth-1, below), m.session(depth-1, below)}
		return a
	}
	for _, label := range [][]string{{"l"}, {"n10"}, {"l", "n10"}, {"n10", "l"}}[m.IntN(4)] {
		a.Labels = append(a.Labels, label)
		a.Kids = append(a.Kids, m.session(depth-1, below))
	}
	return a
}

// payload makes a type of any Kind.
func (m *maker) payload(depth int, bound map[string]bool) api.Type {
	if m.IntN(2) == 0 {
		return api.Type{Kind: api.TInt + m.IntN(5)/4}
	}
	return m.session(depth, bound)
}

// make makes a type.
func (m *maker) make() api.Type {
	return m.payload(1+m.IntN(7), map[string]bool{})
}

// unfolded returns a type with the same infinite tree, in which some TRecs are unfolded and labels have another order.
func (m *maker) unfolded(a api.Type, depth int) api.Type {
	if typetree.Size(a) > 200 || m.IntN(4) == 0 {
		return a
	}
	if a = typetree.Unfold(a); depth == 0 {
		return a
	}
	b := a
	b.Labels, b.Kids = nil, nil
	order := m.Perm(len(a.Kids))
	if len(a.Labels) == 0 {
		slices.Sort(order)
	}
	for _, i := range order {
		if len(a.Labels) > 0 {
			b.Labels = append(b.Labels, a.Labels[i])
		}
		b.Kids = append(b.Kids, m.unfolded(a.Kids[i], depth-1))
	}
	return b
}

// changed returns a type in which one node is changed, if it has a node that can be.
func (m *maker) changed(a api.Type) api.Type {
	a = typetree.Copy(a)
	node := &a
	for len(node.Kids) > 0 && m.IntN(5) > 0 {
		node = &node.Kids[m.IntN(len(node.Kids))]
	}
	switch node.Kind {
	case api.TInt, api.TBool:
		node.Kind = api.TInt + api.TBool - node.Kind
	case api.TVar:
		node.Shift = 1 - node.Shift%2
	case api.TSend, api.TRecv, api.TSelect, api.TBranch:
		if m.IntN(3) == 0 {
			node.Kind = dual.Kind(node.Kind)
		} else {
			node.Prio = 1 - node.Prio%2
		}
	}
	return a
}

// types makes a type, equal ones, changed ones, and ones that are unfolded after a change.
func (m *maker) types() []api.Type {
	a := m.make()
	l := []api.Type{a, m.unfolded(a, 3), m.changed(a), m.unfolded(m.changed(a), 3), m.make(), typetree.Raise(m.unfolded(a, 2), m.IntN(3))}
	return slices.DeleteFunc(l, func(a api.Type) bool { return typetree.Size(a) > 40 })
}

func TestTypesMadeByChance(t *testing.T) {
	m := &maker{rand.New(rand.NewPCG(10, 1))}
	var c counts
	for range 1500 {
		l := m.types()
		for _, a := range l {
			if typetree.Right(a) != api.OK {
				t.Fatalf("%s: not right", show.Type(a))
			}
		}
		g, _ := graph.Build(l)
		wantLikeModel(t, g, m.IntN(3), m.IntN(3)-1, &c)
		if m.IntN(8) == 0 {
			wantLikeModel(t, dual.Close(g), 0, m.IntN(2), &c)
		}
		if t.Failed() {
			for _, a := range l {
				t.Log(show.Type(a))
			}
			t.FailNow()
		}
	}
	if c.equal < 20000 || c.raised < 10000 || c.alike < 4000 || c.other < 100000 {
		t.Errorf("%+v", c)
	}
}

// treeText shows the infinite tree of a type down to a depth; labels are in order.
// It is "" if a TRec in it is too large to be unfolded.
func treeText(a api.Type, withPrios bool, depth int) string {
	if depth == 0 {
		return "_"
	}
	if a.Kind == api.TRec && typetree.Size(a) > 200 {
		return ""
	}
	a = typetree.Unfold(a)
	s := firstText(a.Kind, a.Labels)
	if withPrios {
		s += fmt.Sprint(a.Prio)
	}
	var parts []string
	for i, kid := range a.Kids {
		part := treeText(kid, withPrios, depth-1)
		if part == "" {
			return ""
		}
		if len(a.Labels) > 0 {
			part = a.Labels[i] + part
		}
		parts = append(parts, part)
	}
	if len(a.Labels) > 0 {
		slices.Sort(parts)
	}
	return s + "(" + strings.Join(parts, ", ") + ")"
}

// wantTrees checks that the trees of two types are the same down to a depth if the references are equal, or alike, and
// that they differ in the step in which they are struck out. It returns the number of trees that were compared.
func wantTrees(t *testing.T, l []api.Type, depth int) int {
	t.Helper()
	g, refs := graph.Build(l)
	m := newModel(g)
	compared := 0
	for i, a := range l {
		for j, b := range l {
			for _, withPrios := range []bool{false, true} {
				x, y := treeText(a, withPrios, depth), treeText(b, withPrios, depth)
				if x == "" || y == "" {
					continue
				}
				areSame, step := equal.Alike(g, refs[i], refs[j]), m.without[refs[i].Node][refs[j].Node]
				if withPrios {
					areSame, step = equal.Equal(g, refs[i], refs[j]), m.withPrios[refs[i].Node][refs[j].Node]
				}
				compared++
				if areSame && x != y {
					t.Fatalf("%s and %s, with priorities: %v: got true, but the trees are\n%s\n%s", show.Type(a), show.Type(b), withPrios, x, y)
				}
				if !areSame && step < depth && x == y {
					t.Fatalf("%s and %s, with priorities: %v: got false, but both trees are\n%s", show.Type(a), show.Type(b), withPrios, x)
				}
			}
		}
	}
	return compared
}

func TestTreesOfTypes(t *testing.T) {
	m := &maker{rand.New(rand.NewPCG(10, 2))}
	compared := 0
	for range 300 {
		compared += wantTrees(t, m.types(), 1+m.IntN(6))
	}
	if compared < 10000 {
		t.Errorf("%d trees", compared)
	}
}
