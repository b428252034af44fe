package context_test

import (
	"fmt"
	"maps"
	"math/rand/v2"
	"slices"
	"strings"
	"testing"

	"duologue/api"
	"duologue/context"
	"duologue/dual"
	"duologue/graph"
	"duologue/show"
	"duologue/typetree"
)

// The tests of this file find the results in another way than the package: what is done with a name is said for each
// place of a list, and a type is live if its text, unfolded by layer 2, begins with a sign of an action.

// eachChoice calls f with each list of a length of some names.
func eachChoice(names []string, length int, f func([]string)) {
	l := make([]string, length)
	var choose func(i int)
	choose = func(i int) {
		if i == length {
			f(l)
			return
		}
		for _, name := range names {
			l[i] = name
			choose(i + 1)
		}
	}
	choose(0)
}

// before reports whether a name stands in front of an index.
func before(c []context.Entry, i int, name string) bool {
	for i--; i >= 0; i-- {
		if c[i].Name == name {
			return true
		}
	}
	return false
}

// wantList checks Find, Set and Drop for a list and a name.
func wantList(t *testing.T, c []context.Entry, name string) {
	t.Helper()
	var found graph.Ref
	var set, dropped []context.Entry
	for i, e := range c {
		first := e.Name == name && !before(c, i, name)
		if first {
			found = e.R
		}
		if e.Name != name {
			dropped = append(dropped, e)
		}
		if first {
			e.R = ref(-1, 99)
		}
		set = append(set, e)
	}
	if !before(c, len(c), name) {
		set = append(set, entry(name, -1, 99))
	}
	wantFind(t, c, name, found, before(c, len(c), name))
	wantEntries(t, "Set "+name, context.Set(c, name, ref(-1, 99)), set...)
	wantEntries(t, "Drop "+name, context.Drop(c, name), dropped...)
}

func TestAllShortLists(t *testing.T) {
	names := []string{"", "a", "b", "ab"}
	lists := 0
	for length := range 6 {
		eachChoice(names, length, func(l []string) {
			lists++
			for _, name := range append(names, "c") {
				wantList(t, named(l...), name)
			}
		})
	}
	if lists != 1+4+16+64+256+1024 {
		t.Errorf("%d lists", lists)
	}
}

// What is set is found, and what is dropped is not; other names stay as they are.
func TestFindAfterSetAndDrop(t *testing.T) {
	names := []string{"", "a", "b"}
	for length := range 5 {
		eachChoice(names, length, func(l []string) {
			c := named(l...)
			for _, name := range names {
				set, dropped := context.Set(c, name, ref(9, 9)), context.Drop(c, name)
				wantFind(t, set, name, ref(9, 9), true)
				wantFind(t, dropped, name, graph.Ref{}, false)
				for _, other := range names {
					if other != name {
						r, ok := context.Find(c, other)
						wantFind(t, set, other, r, ok)
						wantFind(t, dropped, other, r, ok)
					}
				}
				wantEntries(t, "Drop of Set", context.Drop(set, name), dropped...)
			}
		})
	}
}

// known is an entry, of which the type is known as a tree.
type known struct {
	context.Entry
	live bool
	prio int
}

// knownEntry returns the entry with a reference to the type a, that the Shift raises by k.
func knownEntry(name string, a api.Type, r graph.Ref, k int) known {
	a = typetree.Unfold(typetree.Raise(a, k))
	r.Shift += k
	return known{Entry: context.Entry{Name: name, R: r}, live: strings.Contains("!?+&", show.Type(a)[:1]), prio: a.Prio}
}

// entriesWith returns those of the entries that a condition holds for, one after the other.
func entriesWith(l []known, is func(known) bool) []context.Entry {
	var c []context.Entry
	for len(l) > 0 {
		if is(l[0]) {
			c = append(c, l[0].Entry)
		}
		l = l[1:]
	}
	return c
}

// wantKnown checks Live, Lowest and Split for entries that are known, and some names.
func wantKnown(t *testing.T, g graph.Graph, l []known, names []string) {
	t.Helper()
	c := entriesWith(l, func(known) bool { return true })
	wantEntries(t, "Live of "+text(c), context.Live(g, c), entriesWith(l, func(k known) bool { return k.live })...)
	for _, except := range append(slices.Clone(names), "", "none") {
		var prios []int
		for _, k := range l {
			if k.live && k.Name != except {
				prios = append(prios, k.prio)
			}
		}
		slices.Sort(prios)
		wantLowest(t, g, c, except, append(prios, 0)[0], len(prios) > 0)
	}
	in := entriesWith(l, func(k known) bool { return !(k.live && !slices.Contains(names, k.Name)) })
	out := entriesWith(l, func(k known) bool { return !(k.live && slices.Contains(names, k.Name)) })
	wantSplit(t, g, c, names, in, out)
}

// All subsets of names, for the contexts of all sublists of types of each kind.
func TestAllContextsOfSomeTypes(t *testing.T) {
	l := types(t, "!3 int.end", "end", "rec t.?t.t+1", "int", "+2 {a: end}", "bool", "rec t.rec u.&5 {a: t, b: u+2}")
	g, refs := graph.Build(l)
	closed := dual.Close(g)
	for set := range 1 << len(l) {
		var c, duals []known
		for i, a := range l {
			if set&(1<<i) != 0 {
				name := string(rune('a' + i))
				c = append(c, knownEntry(name, a, refs[i], 10-4*i))
				duals = append(duals, knownEntry(name, a, dual.Of(closed, refs[i]), 10-4*i))
			}
		}
		for chosen := range 1 << len(l) {
			var names []string
			for i := range l {
				if chosen&(1<<i) != 0 {
					names = append(names, string(rune('a'+i)))
				}
			}
			wantKnown(t, g, c, names)
			wantKnown(t, closed, duals, names)
		}
		if t.Failed() {
			return
		}
	}
}

// maker makes right types by chance.
type maker struct{ *rand.Rand }

// session makes a session type; bound has the names in scope, and whether an action is between.
func (m *maker) session(depth int, bound map[string]bool) api.Type {
	name, chance := string("tuv"[m.IntN(3)]), m.IntN(12)
	if bound[name] && (chance < 4 || depth == 0) {
		return api.Type{Kind: api.TVar, Name: name, Shift: m.IntN(3) * m.IntN(500)}
	}
	if depth == 0 || chance == 4 {
		return api.Type{Kind: api.TEnd}
	}
	below := maps.Clone(bound)
	if chance < 8 {
		below[name] = false
		return api.Type{Kind: api.TRec, Name: name, Kids: []api.Type{m.session(depth-1, below)}}
	}
	for s := range bound {
		below[s] = true
	}
	a := api.Type{Kind: api.TSend + m.IntN(4), Prio: m.IntN(1000)}
	if a.Kind < api.TSelect {
		a.Kids = []api.Type{m.payload(depth-1, below), m.session(depth-1, below)}
		return a
	}
	for _, i := range m.Perm(5)[:1+m.IntN(4)] {
		a.Labels = append(a.Labels, []string{"l", "M", "n10", "n2", "n"}[i])
		a.Kids = append(a.Kids, m.session(depth-1, below))
	}
	return a
}

// payload makes a type of any Kind.
func (m *maker) payload(depth int, bound map[string]bool) api.Type {
	if m.IntN(2) == 0 {
		return api.Type{Kind: api.TInt + m.IntN(2)}
	}
	return m.session(depth, bound)
}

func TestContextsMadeByChance(t *testing.T) {
	m := &maker{rand.New(rand.NewPCG(13, 1))}
	live, entries := 0, 0
	for range 3000 {
		var l []api.Type
		for range m.IntN(7) {
			l = append(l, m.payload(1+m.IntN(6), map[string]bool{}))
		}
		g, refs := graph.Build(l)
		closed := dual.Close(g)
		var c, duals []known
		for _, i := range m.Perm(len(l)) {
			name, k := fmt.Sprint("n", i), m.IntN(2000)-1000
			c = append(c, knownEntry(name, l[i], refs[i], k))
			duals = append(duals, knownEntry(name, l[i], dual.Of(closed, refs[i]), k))
			entries++
			if c[len(c)-1].live {
				live++
			}
		}
		var names []string
		for range m.IntN(6) {
			names = append(names, fmt.Sprint("n", m.IntN(8)))
		}
		wantKnown(t, g, c, names)
		wantKnown(t, closed, c, names)
		wantKnown(t, closed, duals, names)
		if t.Failed() {
			return
		}
	}
	if live < 2000 || entries-live < 2000 {
		t.Errorf("%d of %d entries are live", live, entries)
	}
}
