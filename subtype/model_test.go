package subtype_test

import (
	"fmt"
	"maps"
	"math/rand/v2"
	"slices"
	"testing"

	"duologue/api"
	"duologue/dual"
	"duologue/equal"
	"duologue/graph"
	"duologue/show"
	"duologue/subtype"
	"duologue/typetree"
)

// The tests of this file find the results in other ways than the package: from all pairs of nodes, of which those are
// struck out step by step that cannot be related; from trees that layer 2 unfolds; and from subtypes that are made of types.

// pairs tells for each two nodes of a graph after how many steps the first one is found to be no subtype of the second one
// when it is raised to the same priority, or never.
type pairs [][]int

const never = -1

// contains reports whether all labels of a second list are in a first one.
func contains(many, few []string) bool {
	return !slices.ContainsFunc(few, func(s string) bool { return !slices.Contains(many, s) })
}

// canBegin reports whether nodes of a first Kind with some labels can be subtypes of nodes of a second one.
func canBegin(kindA, kindB int, labelsA, labelsB []string) bool {
	switch {
	case kindA != kindB:
		return false
	case kindA == api.TSelect:
		return contains(labelsA, labelsB)
	case kindA == api.TBranch:
		return contains(labelsB, labelsA)
	}
	return true
}

// step is a pair of Kids, by their indices in the two types, which are to be related in this or in the other order.
type step struct {
	a, b     int
	exchange bool
}

// steps returns the pairs of Kids of types that can begin so.
func steps(kind int, labelsA, labelsB []string) []step {
	var l []step
	switch kind {
	case api.TSend, api.TRecv:
		l = []step{{0, 0, kind == api.TSend}, {1, 1, false}}
	case api.TSelect, api.TBranch:
		for i, s := range labelsA {
			if j := slices.Index(labelsB, s); j >= 0 {
				l = append(l, step{i, j, false})
			}
		}
	}
	return l
}

// difference returns by how much the priority of a reference b is greater than that of a; only actions have one.
func difference(g graph.Graph, a, b graph.Ref) int {
	x, y := g.Nodes[a.Node], g.Nodes[b.Node]
	if x.Kind < api.TSend || y.Kind < api.TSend {
		return 0
	}
	return y.Prio + b.Shift - x.Prio - a.Shift
}

// struck reports whether what is behind the nodes a and b, which can begin so, cannot be related.
func (p pairs) struck(g graph.Graph, a, b int) bool {
	x, y := g.Nodes[a], g.Nodes[b]
	for _, s := range steps(x.Kind, x.Labels, y.Labels) {
		below, above := x.Next[s.a], y.Next[s.b]
		more := difference(g, below, above)
		if s.exchange {
			below, above = above, below
		}
		if p[below.Node][above.Node] != never || isAction(g, below) && more != difference(g, ref(a, 0), ref(b, 0)) {
			return true
		}
	}
	return false
}

// strikeOut returns the pairs of a graph.
func strikeOut(g graph.Graph) pairs {
	n := len(g.Nodes)
	p := make(pairs, n)
	for a, x := range g.Nodes {
		p[a] = slices.Repeat([]int{never}, n)
		for b, y := range g.Nodes {
			if !canBegin(x.Kind, y.Kind, x.Labels, y.Labels) {
				p[a][b] = 0
			}
		}
	}
	for round := 1; ; round++ {
		var out [][2]int
		for a := range n {
			for b := range n {
				if p[a][b] == never && p.struck(g, a, b) {
					out = append(out, [2]int{a, b})
				}
			}
		}
		if len(out) == 0 {
			return p
		}
		for _, x := range out {
			p[x[0]][x[1]] = round
		}
	}
}

// steps returns after how many steps a reference is found to be no subtype of another one, or never.
func (p pairs) steps(g graph.Graph, a, b graph.Ref) int {
	if difference(g, a, b) != 0 {
		return 0
	}
	return p[a.Node][b.Node]
}

// verdict returns the verdict for two references.
func (p pairs) verdict(g graph.Graph, a, b graph.Ref) verdict {
	return verdict{p.steps(g, a, b) == never, p.steps(g, b, a) == never}
}

// counts has the numbers of verdicts that were compared.
type counts struct{ same, below, above, neither int }

func (c *counts) add(v verdict) {
	switch v {
	case same:
		c.same++
	case below:
		c.below++
	case above:
		c.above++
	default:
		c.neither++
	}
}

// wantLikeModel checks the results for all pairs of nodes of a graph, with two Shifts, and with those of the same priority.
func wantLikeModel(t *testing.T, g graph.Graph, k, l int, c *counts) {
	t.Helper()
	p := strikeOut(g)
	for a := range g.Nodes {
		for b := range g.Nodes {
			x, y := ref(a, k), ref(b, l)
			wantCalls(t, g, x, y, p.verdict(g, x, y))
			x = raised(x, difference(g, x, y))
			want := p.verdict(g, x, y)
			wantCalls(t, g, x, y, want)
			c.add(want)
		}
	}
}

// wantFitsLikeModel checks Fits for all pairs of nodes of a closed graph that are of session types.
func wantFitsLikeModel(t *testing.T, g graph.Graph, k int) {
	t.Helper()
	p := strikeOut(g)
	n := len(g.Nodes)
	for a := range n {
		for b := range n {
			x, y := ref(a, 0), ref(b, k)
			if !isSession(g, x) || !isSession(g, y) {
				continue
			}
			want := p.steps(g, x, ref((b+n/2)%n, k)) == never
			if subtype.Fits(g, x, y) != want || subtype.Fits(g, y, x) != want {
				t.Errorf("Fits of %v and %v: got %v, and %v in the other order, want %v", x, y, subtype.Fits(g, x, y), subtype.Fits(g, y, x), want)
			}
		}
	}
}

func TestLikeAllPairs(t *testing.T) {
	var all []string
	for _, x := range ordered {
		all = append(all, x.source)
	}
	var c counts
	for _, sources := range [][]string{all, {everyKind, circles}, {circle("ffm"), circle("ffmmfm"), chain("fmfmm", circle("mff"))},
		{circle("012"), circle("0123"), circle("123"), chain("012", circle("012"))}, {"rec t.!(t).t", "rec t.!(!(t).t).!(t+1).t", "rec t.?(t).t"}} {
		g, _ := build(t, sources...)
		for _, k := range []int{0, 1, -7} {
			wantLikeModel(t, g, 0, k, &c)
			wantLikeModel(t, dual.Close(g), k, 0, &c)
			wantFitsLikeModel(t, dual.Close(g), k)
		}
	}
	if c.same < 1000 || c.below < 500 || c.above < 500 || c.neither < 1000 {
		t.Errorf("%+v", c)
	}
}

// maker makes right types by chance, with few Kinds of nodes, so that many of them are related.
type maker struct{ *rand.Rand }

// session makes a session type; bound has the names in scope, and whether an action is between.
func (m *maker) session(depth int, bound map[string]bool) api.Type {
	name, chance := string("tu"[m.IntN(2)]), m.IntN(12)
	if bound[name] && (chance < 5 || depth == 0) {
		return api.Type{Kind: api.TVar, Name: name, Shift: m.IntN(6) / 5}
	}
	if depth == 0 || chance == 5 {
		return api.Type{Kind: api.TEnd}
	}
	below := maps.Clone(bound)
	if chance < 9 {
		below[name] = false
		return api.Type{Kind: api.TRec, Name: name, Kids: []api.Type{m.session(depth-1, below)}}
	}
	for s := range bound {
		below[s] = true
	}
	a := api.Type{Kind: api.TSend + m.IntN(4), Prio: m.IntN(8) / 7}
	if a.Kind < api.TSelect {
		a.Kids = []api.Type{m.payload(depth-1, below), m.session(depth-1, below)}
		return a
	}
	for _, label := range [][]string{{"l"}, {"n10"}, {"l", "n10"}, {"n10", "l"}, {"n10", "l", "m"}}[m.IntN(5)] {
		a.Labels = append(a.Labels, label)
		a.Kids = append(a.Kids, m.session(depth-1, below))
	}
	return a
}

// payload makes a type of any Kind.
func (m *maker) payload(depth int, bound map[string]bool) api.Type {
	if m.IntN(2) == 0 {
		return api.Type{Kind: api.TInt + m.IntN(5)/4}
	}
	return m.session(depth, bound)
}

// make makes a type.
func (m *maker) make() api.Type {
	return m.payload(1+m.IntN(7), map[string]bool{})
}

// related returns a subtype of a type, or a supertype, in which some TRecs are unfolded, labels have another order, and
// some labels are new or left out.
func (m *maker) related(a api.Type, sub bool, depth int) api.Type {
	if typetree.Size(a) > 200 || m.IntN(6) == 0 {
		return a
	}
	if a = typetree.Unfold(a); depth == 0 {
		return a
	}
	b := a
	b.Labels, b.Kids = nil, nil
	if a.Kind == api.TSend || a.Kind == api.TRecv {
		b.Kids = []api.Type{m.related(a.Kids[0], sub == (a.Kind == api.TRecv), depth-1), m.related(a.Kids[1], sub, depth-1)}
		return b
	}
	// A subtype of a selection has more labels, and one of a branching has less.
	more := sub == (a.Kind == api.TSelect)
	for _, i := range m.Perm(len(a.Labels)) {
		if more || len(b.Labels) == 0 || m.IntN(2) == 0 {
			b.Labels = append(b.Labels, a.Labels[i])
			b.Kids = append(b.Kids, m.related(a.Kids[i], sub, depth-1))
		}
	}
	if len(a.Labels) > 0 && more && m.IntN(2) == 0 {
		b.Labels = append(b.Labels, fmt.Sprint("x", len(b.Labels)))
		b.Kids = append(b.Kids, m.session(2, map[string]bool{}))
	}
	return b
}

// changed returns a type in which one node is changed, if it has a node that can be.
func (m *maker) changed(a api.Type) api.Type {
	a = typetree.Copy(a)
	node := &a
	for len(node.Kids) > 0 && m.IntN(5) > 0 {
		node = &node.Kids[m.IntN(len(node.Kids))]
	}
	switch node.Kind {
	case api.TInt, api.TBool:
		node.Kind = api.TInt + api.TBool - node.Kind
	case api.TVar:
		node.Shift = 1 - node.Shift%2
	case api.TSend, api.TRecv:
		if m.IntN(2) == 0 {
			node.Kind = dual.Kind(node.Kind)
		} else {
			node.Prio = 1 - node.Prio%2
		}
	case api.TSelect, api.TBranch:
		last := len(node.Kids) - 1
		if last > 0 && m.IntN(4) > 0 {
			node.Labels, node.Kids = node.Labels[:last], node.Kids[:last]
		} else {
			node.Labels = append(node.Labels, "z")
			node.Kids = append(node.Kids, api.Type{Kind: api.TEnd})
		}
	}
	return a
}

// types makes a type, related ones, changed ones, and ones that are related to changed ones.
func (m *maker) types() []api.Type {
	a := m.make()
	l := []api.Type{a, m.related(a, true, 3), m.related(a, false, 3), m.changed(a), m.related(m.changed(a), m.IntN(2) == 0, 3), m.make(), typetree.Raise(m.related(a, true, 2), m.IntN(3))}
	return slices.DeleteFunc(l, func(a api.Type) bool { return typetree.Size(a) > 40 })
}

// logTypes shows types if a test has failed, and ends it.
func logTypes(t *testing.T, l []api.Type) {
	t.Helper()
	if !t.Failed() {
		return
	}
	for _, a := range l {
		t.Log(show.Type(a))
	}
	t.FailNow()
}

func TestTypesMadeByChance(t *testing.T) {
	m := &maker{rand.New(rand.NewPCG(11, 1))}
	var c counts
	for range 1000 {
		l := m.types()
		for _, a := range l {
			if typetree.Right(a) != api.OK {
				t.Fatalf("%s: not right", show.Type(a))
			}
		}
		g, _ := graph.Build(l)
		wantLikeModel(t, g, m.IntN(3), m.IntN(3)-1, &c)
		if m.IntN(8) == 0 {
			wantLikeModel(t, dual.Close(g), 0, m.IntN(2), &c)
			wantFitsLikeModel(t, dual.Close(g), m.IntN(2))
		}
		logTypes(t, l)
	}
	if c.same < 20000 || c.below < 4000 || c.above < 4000 || c.neither < 100000 {
		t.Errorf("%+v", c)
	}
}

// Subtypes and supertypes that are made of a type are such, and so are their duals.
func TestTypesMadeOfTypes(t *testing.T) {
	m := &maker{rand.New(rand.NewPCG(11, 2))}
	proper := 0
	for range 5000 {
		a := m.make()
		l := []api.Type{m.related(a, true, 5), m.related(a, true, 2), a, m.related(a, false, 2)}
		g, refs := graph.Build(append(l, m.related(l[3], false, 5)))
		g = dual.Close(g)
		for _, pair := range [][2]int{{0, 2}, {1, 2}, {2, 3}, {3, 4}, {0, 3}, {1, 4}, {2, 4}} {
			a, b := refs[pair[0]], refs[pair[1]]
			if !subtype.Sub(g, a, b) {
				t.Errorf("%v: no subtype", pair)
			}
			if !subtype.Sub(g, b, a) {
				proper++
			}
			if isSession(g, a) && (!subtype.Sub(g, dual.Of(g, b), dual.Of(g, a)) || !subtype.Fits(g, a, dual.Of(g, b)) || !subtype.Fits(g, dual.Of(g, b), a)) {
				t.Errorf("%v: the duals are no subtypes, or do not fit", pair)
			}
		}
		logTypes(t, l)
	}
	if proper < 2000 {
		t.Errorf("%d subtypes that are not the same", proper)
	}
}

// treeSub reports whether the infinite tree of a is that of a subtype of b down to a depth. The second result is false if
// a TRec in them is too large to be unfolded.
func treeSub(a, b api.Type, depth int) (bool, bool) {
	if depth == 0 {
		return true, true
	}
	if a.Kind == api.TRec && typetree.Size(a) > 200 || b.Kind == api.TRec && typetree.Size(b) > 200 {
		return false, false
	}
	a, b = typetree.Unfold(a), typetree.Unfold(b)
	if a.Prio != b.Prio || !canBegin(a.Kind, b.Kind, a.Labels, b.Labels) {
		return false, true
	}
	all := true
	for _, s := range steps(a.Kind, a.Labels, b.Labels) {
		below, above := a.Kids[s.a], b.Kids[s.b]
		if s.exchange {
			below, above = above, below
		}
		sub, ok := treeSub(below, above, depth-1)
		if !ok {
			return false, false
		}
		all = all && sub
	}
	return all, true
}

// The trees of types are related down to a depth if they are not struck out in less steps.
func TestTreesOfTypes(t *testing.T) {
	m := &maker{rand.New(rand.NewPCG(11, 3))}
	compared := map[bool]int{}
	for range 1000 {
		l := m.types()
		depth := 1 + m.IntN(7)
		g, refs := graph.Build(l)
		p := strikeOut(g)
		for i, a := range l {
			for j, b := range l {
				got, ok := treeSub(a, b, depth)
				if !ok {
					continue
				}
				compared[got]++
				sub, n := subtype.Sub(g, refs[i], refs[j]), p.steps(g, refs[i], refs[j])
				if got != (n == never || n >= depth) || sub != (n == never) {
					t.Fatalf("%s and %s: got %v, and the trees of the depth %d give %v; struck out after %d steps", show.Type(a), show.Type(b), sub, depth, got, n)
				}
			}
		}
	}
	if compared[true] < 10000 || compared[false] < 10000 {
		t.Errorf("%v trees", compared)
	}
}

// wantOrder checks P11.3 for some references of a closed graph, of which those that are no session types are left out for duals.
func wantOrder(t *testing.T, g graph.Graph, refs []graph.Ref) {
	t.Helper()
	for _, a := range refs {
		if !subtype.Sub(g, a, a) || !subtype.Same(g, a, a) {
			t.Errorf("%v: no subtype of itself", a)
		}
		for _, b := range refs {
			sub := subtype.Sub(g, a, b)
			if both := sub && subtype.Sub(g, b, a); both != equal.Equal(g, a, b) || both != subtype.Same(g, a, b) {
				t.Errorf("%v and %v: subtypes of each other: %v, equal: %v", a, b, both, equal.Equal(g, a, b))
			}
			if isSession(g, a) && isSession(g, b) {
				if subtype.Sub(g, dual.Of(g, b), dual.Of(g, a)) != sub {
					t.Errorf("%v and %v: got %v, and not so for the duals", a, b, sub)
				}
				if subtype.Fits(g, a, b) != subtype.Fits(g, b, a) || subtype.Fits(g, a, dual.Of(g, b)) != sub {
					t.Errorf("%v and %v: Fits depends on the order, or is no subtyping", a, b)
				}
			}
			for _, c := range refs {
				if sub && subtype.Sub(g, b, c) && !subtype.Sub(g, a, c) {
					t.Errorf("%v, %v and %v: not transitive", a, b, c)
				}
			}
		}
	}
}

func TestOrderOfTypesMadeByChance(t *testing.T) {
	m := &maker{rand.New(rand.NewPCG(11, 4))}
	for range 400 {
		l := m.types()
		g, refs := graph.Build(append(l, m.related(l[0], true, 3), m.related(l[0], false, 3)))
		g = dual.Close(g)
		for range 4 {
			refs = append(refs, ref(m.IntN(len(g.Nodes)), m.IntN(2)))
		}
		wantOrder(t, g, refs)
		logTypes(t, l)
	}
}
