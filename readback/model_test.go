package readback_test

import (
	"fmt"
	"maps"
	"math/rand/v2"
	"slices"
	"strconv"
	"strings"
	"testing"

	"duologue/api"
	"duologue/dual"
	"duologue/equal"
	"duologue/graph"
	"duologue/readback"
	"duologue/show"
	"duologue/typetree"
)

// The tests of this file find the normal tree in another way than the package: by asking layer 10 for each reference on
// the path. The trees of references and types are compared by following the nodes of the graph, and by unfolding of layer 2.

// around is a path of references.
type around []graph.Ref

// behind returns the reference behind r for each Kid of its tree: for labels, in their order.
func behind(g graph.Graph, r graph.Ref) (labels []string, l []graph.Ref) {
	node := g.Nodes[r.Node]
	labels = slices.Sorted(slices.Values(node.Labels))
	for i := range node.Next {
		next := node.Next[i]
		if len(labels) > 0 {
			next = node.Next[slices.Index(node.Labels, labels[i])]
		}
		l = append(l, ref(next.Node, next.Shift+r.Shift))
	}
	return labels, l
}

// isAction reports whether a reference has a priority.
func isAction(g graph.Graph, r graph.Ref) bool {
	return g.Nodes[r.Node].Kind >= api.TSend
}

// refersTo reports whether there is a TVar with a name in a type.
func refersTo(a api.Type, name string) bool {
	return a.Kind == api.TVar && a.Name == name || slices.ContainsFunc(a.Kids, func(kid api.Type) bool { return refersTo(kid, name) })
}

// counts has the numbers of nodes of normal trees.
type counts struct{ all, recs, vars, raised, other int }

// tree returns the normal tree of a reference as the chapter describes it.
func (path around) tree(t *testing.T, g graph.Graph, r graph.Ref, c *counts) api.Type {
	t.Helper()
	c.all++
	found := -1
	var a api.Type
	for i, p := range path {
		k, ok := equal.Offset(g, p, r)
		if !ok || !isAction(g, r) {
			continue
		}
		if found >= 0 || k < 0 {
			t.Fatalf("%v is equal to the references %d and %d of %v, the latter one raised by %d", r, found, i, path, k)
		}
		found = i
		a = api.Type{Kind: api.TVar, Name: fmt.Sprintf("r%d", i), Shift: k}
		c.vars++
		if k > 0 {
			c.raised++
		}
		if p.Node != r.Node {
			c.other++
		}
	}
	if found >= 0 {
		return a
	}
	node := g.Nodes[r.Node]
	a.Kind = node.Kind
	if isAction(g, r) {
		a.Prio = node.Prio + r.Shift
	}
	labels, l := behind(g, r)
	a.Labels = labels
	name := fmt.Sprintf("r%d", len(path))
	for _, next := range l {
		a.Kids = append(a.Kids, append(slices.Clone(path), r).tree(t, g, next, c))
	}
	if refersTo(a, name) {
		c.recs++
		return api.Type{Kind: api.TRec, Name: name, Kids: []api.Type{a}}
	}
	return a
}

// wantLikeModel checks the normal trees of all references to nodes of a graph with a Shift.
func wantLikeModel(t *testing.T, g graph.Graph, shift int, c *counts) {
	t.Helper()
	for n := range g.Nodes {
		want := around(nil).tree(t, g, ref(n, shift), c)
		if got := readback.Normal(g, ref(n, shift)); !typetree.Same(got, want) {
			t.Errorf("Normal of %v: got %s, want %s", ref(n, shift), show.Type(got), show.Type(want))
		}
		if got := readback.Text(g, ref(n, shift)); got != show.Type(want) {
			t.Errorf("Text of %v: got %s, want %s", ref(n, shift), got, show.Type(want))
		}
	}
}

// wantSameTrees checks for all pairs of references of a graph that their normal trees are the same exactly if they are equal.
func wantSameTrees(t *testing.T, g graph.Graph) {
	t.Helper()
	var refs []graph.Ref
	var texts []string
	for n := range g.Nodes {
		for shift := range 2 {
			refs = append(refs, ref(n, shift))
			texts = append(texts, readback.Text(g, ref(n, shift)))
		}
	}
	for i, a := range refs {
		for j, b := range refs {
			if want := equal.Equal(g, a, b); (texts[i] == texts[j]) != want {
				t.Fatalf("%v and %v have the normal trees %s and %s: want the same tree: %v", a, b, texts[i], texts[j], want)
			}
		}
	}
}

// nodeText shows a node of an infinite tree with the texts of its Kids; depth is what remains of the depth.
func nodeText(kind, prio, depth int, labels []string, kids func(int) string) string {
	s := fmt.Sprint(kind, " ", prio, labels)
	if depth == 0 {
		return s
	}
	n := len(labels)
	if kind == api.TSend || kind == api.TRecv {
		n = 2
	}
	for i := range n {
		s += "(" + kids(i) + ")"
	}
	return s
}

// graphText shows the infinite tree of a reference down to a depth.
func graphText(g graph.Graph, r graph.Ref, depth int) string {
	prio := 0
	if isAction(g, r) {
		prio = g.Nodes[r.Node].Prio + r.Shift
	}
	labels, l := behind(g, r)
	return nodeText(g.Nodes[r.Node].Kind, prio, depth, labels, func(i int) string { return graphText(g, l[i], depth-1) })
}

// typeText shows the infinite tree of a type down to a depth. It is "" if a TRec in it is too large to be unfolded.
func typeText(a api.Type, depth int) string {
	if a.Kind == api.TRec && typetree.Size(a) > 200 {
		return ""
	}
	a = typetree.Unfold(a)
	labels := slices.Sorted(slices.Values(a.Labels))
	whole := true
	s := nodeText(a.Kind, a.Prio, depth, labels, func(i int) string {
		if len(labels) > 0 {
			i = slices.Index(a.Labels, labels[i])
		}
		kid := typeText(a.Kids[i], depth-1)
		whole = whole && kid != ""
		return kid
	})
	if !whole {
		return ""
	}
	return s
}

// wantTrees checks the infinite trees of the normal trees of all references to nodes of a graph, down to a depth, and
// that Canonical of them is the same tree. It returns how many were compared.
func wantTrees(t *testing.T, g graph.Graph, shift, depth int) int {
	t.Helper()
	compared := 0
	for n := range g.Nodes {
		a := readback.Normal(g, ref(n, shift))
		if typetree.Right(a) != api.OK {
			continue
		}
		if got := readback.Canonical(a); !typetree.Same(got, a) {
			t.Errorf("Canonical of %s: got %s", show.Type(a), show.Type(got))
		}
		want := graphText(g, ref(n, shift), depth)
		got := typeText(a, depth)
		if got == "" {
			continue
		}
		compared++
		if got != want {
			t.Errorf("Normal of %v: %s has the infinite tree %s, want %s", ref(n, shift), show.Type(a), got, want)
		}
	}
	return compared
}

// wantCanonicals checks the normal trees of types.
func wantCanonicals(t *testing.T, l []api.Type, depth int) {
	t.Helper()
	g, refs := graph.Build(l)
	closed := dual.Close(g)
	for i, a := range l {
		want := readback.Normal(g, refs[i])
		if got := readback.Canonical(a); !typetree.Same(got, want) || !typetree.Same(readback.Normal(closed, refs[i]), want) {
			t.Errorf("Canonical of %s: got %s, want %s", show.Type(a), show.Type(got), show.Type(want))
		}
		if typetree.Right(want) != api.OK || typetree.Size(want) > typetree.Size(a) {
			t.Errorf("Canonical of %s: %s is not right, or is larger", show.Type(a), show.Type(want))
		}
		x, y := typeText(a, depth), typeText(want, depth)
		if x != "" && y != "" && x != y {
			t.Errorf("Canonical of %s: %s has the infinite tree %s, want %s", show.Type(a), show.Type(want), y, x)
		}
		for j, b := range l {
			if areSame := typetree.Same(want, readback.Canonical(b)); areSame != equal.Equal(g, refs[i], refs[j]) {
				t.Errorf("%s and %s: got the same tree: %v", show.Type(a), show.Type(b), areSame)
			}
		}
	}
}

// wantAll checks all that the tests of this file find for some types.
func wantAll(t *testing.T, l []api.Type, depth int, c *counts) {
	t.Helper()
	g, _ := graph.Build(l)
	closed := dual.Close(g)
	for shift := range 2 {
		wantLikeModel(t, g, 3*shift, c)
		wantLikeModel(t, closed, 3*shift, c)
		wantTrees(t, g, shift, depth)
		wantTrees(t, closed, shift, depth)
	}
	wantSameTrees(t, g)
	wantCanonicals(t, l, depth)
	if t.Failed() {
		for _, a := range l {
			t.Log(show.Type(a))
		}
		t.FailNow()
	}
}

func TestLikeTheChapter(t *testing.T) {
	var all []string
	for _, group := range equalGroups {
		all = append(all, group...)
	}
	var c counts
	for _, sources := range [][]string{all, {everyKind, circles}, {"rec t.!t.t", "rec t.!(!t.t).!t+1.t", "rec t.?t.t"},
		{"rec t.&{b: !1 t+2.t, a: rec u.+{a: u, c: t+1}}"}, {"rec t.?(rec u.!(rec v.?v+1.&{a: t+1, b: u+2}).t).+{c: t+4, b: rec u.?u.t}"},
		{"rec t.+{a: rec u.&{a: t, b: rec v.+{a: u, b: v+1, c: t+1}}, b: rec w.&{a: w, b: t}}"}} {
		wantAll(t, types(t, sources...), 5, &c)
	}
	if c.recs < 500 || c.vars < 1000 || c.raised < 500 || c.other < 50 {
		t.Errorf("%+v", c)
	}
}

// maker makes right types by chance, with few Kinds of nodes, so that many of them are equal.
type maker struct{ *rand.Rand }

// session makes a session type; bound has the names in scope, and whether an action is between.
func (m *maker) session(depth int, bound map[string]bool) api.Type {
	name, chance := string("tu"[m.IntN(2)]), m.IntN(12)
	if bound[name] && (chance < 5 || depth == 0) {
		return api.Type{Kind: api.TVar, Name: name, Shift: m.IntN(4) / 3}
	}
	if depth == 0 || chance == 5 {
		return api.Type{Kind: api.TEnd}
	}
	below := maps.Clone(bound)
	if chance < 9 {
		below[name] = false
		return api.Type{Kind: api.TRec, Name: name, Kids: []api.Type{m.session(depth-1, below)}}
	}
	for s := range bound {
		below[s] = true
	}
	a := api.Type{Kind: api.TSend + m.IntN(4), Prio: m.IntN(5) / 4}
	if a.Kind < api.TSelect {
		a.Kids = []api.Type{m.payload(depth-1, below), m.session(depth-1, below)}
		return a
	}
	for _, label := range [][]string{{"l"}, {"n10"}, {"l", "n10"}, {"n10", "l"}, {"n10", "l", "m"}}[m.IntN(5)] {
		a.Labels = append(a.Labels, label)
		a.Kids = append(a.Kids, m.session(depth-1, below))
	}
	return a
}

// payload makes a type of any Kind.
func (m *maker) payload(depth int, bound map[string]bool) api.Type {
	if m.IntN(2) == 0 {
		return api.Type{Kind: api.TInt + m.IntN(5)/4}
	}
	return m.session(depth, bound)
}

// unfolded returns a type with the same infinite tree, in which some TRecs are unfolded and labels have another order.
func (m *maker) unfolded(a api.Type, depth int) api.Type {
	if typetree.Size(a) > 200 || m.IntN(4) == 0 {
		return a
	}
	if a = typetree.Unfold(a); depth == 0 {
		return a
	}
	b := a
	b.Labels, b.Kids = nil, nil
	order := m.Perm(len(a.Kids))
	if len(a.Labels) == 0 {
		slices.Sort(order)
	}
	for _, i := range order {
		if len(a.Labels) > 0 {
			b.Labels = append(b.Labels, a.Labels[i])
		}
		b.Kids = append(b.Kids, m.unfolded(a.Kids[i], depth-1))
	}
	return b
}

// changed returns a type in which one node is changed, if it has a node that can be.
func (m *maker) changed(a api.Type) api.Type {
	a = typetree.Copy(a)
	node := &a
	for len(node.Kids) > 0 && m.IntN(5) > 0 {
		node = &node.Kids[m.IntN(len(node.Kids))]
	}
	switch node.Kind {
	case api.TInt, api.TBool:
		node.Kind = api.TInt + api.TBool - node.Kind
	case api.TVar:
		node.Shift = 1 - node.Shift%2
	case api.TSend, api.TRecv, api.TSelect, api.TBranch:
		if m.IntN(3) == 0 {
			node.Kind = dual.Kind(node.Kind)
		} else {
			node.Prio = 1 - node.Prio%2
		}
	}
	return a
}

// types makes a type, equal ones, changed ones, and another one, none of which is large.
func (m *maker) types() []api.Type {
	a := m.payload(1+m.IntN(7), map[string]bool{})
	l := []api.Type{a, m.unfolded(a, 3), m.changed(a), m.unfolded(m.changed(a), 3), m.payload(m.IntN(6), map[string]bool{}), typetree.Raise(m.unfolded(a, 2), m.IntN(3))}
	return slices.DeleteFunc(l, func(a api.Type) bool { return typetree.Size(a) > 40 })
}

func TestTypesMadeByChance(t *testing.T) {
	m := &maker{rand.New(rand.NewPCG(12, 1))}
	var c counts
	for range 800 {
		wantAll(t, m.types(), 1+m.IntN(4), &c)
	}
	if c.recs < 10000 || c.vars < 20000 || c.raised < 5000 || c.other < 2000 {
		t.Errorf("%+v", c)
	}
}

// word is an endless type: actions that come again and again, each time raised by the rise.
type word struct {
	actions []string
	prios   []int
	rise    int
}

// word makes a word of a few actions.
func (m *maker) word() word {
	var w word
	for range 1 + m.IntN(4) {
		w.actions = append(w.actions, []string{"!%d int.", "?%d int.", "!%d (?%d bool.end)."}[m.IntN(3)])
		w.prios = append(w.prios, m.IntN(3))
	}
	w.rise = m.IntN(4)
	return w
}

// steps returns the text of n actions of a word from an index on.
func (w word) steps(from, n int) string {
	s := ""
	for i := from; i < from+n; i++ {
		at, times := i%len(w.actions), i/len(w.actions)
		prio := strconv.Itoa(w.prios[at] + times*w.rise)
		s += strings.ReplaceAll(w.actions[at], "%d", prio)
	}
	return s
}

// text returns the text of a type of the word, in which some actions are in front of the circle, which goes through the word some times.
func (w word) text(front, times int) string {
	return fmt.Sprintf("%srec t.%st+%d", w.steps(0, front), w.steps(front, times*len(w.actions)), times*w.rise)
}

func TestWordsMadeByChance(t *testing.T) {
	m := &maker{rand.New(rand.NewPCG(12, 2))}
	var c counts
	for range 60 {
		w := m.word()
		l := types(t, w.text(0, 1), w.text(m.IntN(5), 1+m.IntN(3)), w.text(m.IntN(3), 1+m.IntN(3)), m.word().text(m.IntN(2), 2))
		wantAll(t, append(l, m.changed(l[2])), 6, &c)
		if got, want := readback.Canonical(l[1]), readback.Canonical(l[0]); !typetree.Same(got, want) {
			t.Fatalf("Canonical of %s: got %s, want %s", show.Type(l[1]), show.Type(got), show.Type(want))
		}
	}
	if c.recs < 5000 || c.vars < 5000 || c.raised < 5000 || c.other < 2000 {
		t.Errorf("%+v", c)
	}
}
