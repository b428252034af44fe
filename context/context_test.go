package context_test

import (
	"fmt"
	"math"
	"testing"

	"duologue/api"
	"duologue/context"
	"duologue/dual"
	"duologue/graph"
	"duologue/parse"
	"duologue/typetree"
)

// types parses the texts of right types.
func types(t *testing.T, sources ...string) []api.Type {
	t.Helper()
	var l []api.Type
	for _, s := range sources {
		a, fault := parse.Type(s)
		if fault.Err != api.OK || typetree.Right(a) != api.OK {
			t.Fatalf("%s: %v, and error %d", s, fault, typetree.Right(a))
		}
		l = append(l, a)
	}
	return l
}

// build returns the graph of the texts of right types, and their references.
func build(t *testing.T, sources ...string) (graph.Graph, []graph.Ref) {
	t.Helper()
	return graph.Build(types(t, sources...))
}

func ref(node, shift int) graph.Ref {
	return graph.Ref{Node: node, Shift: shift}
}

func entry(name string, node, shift int) context.Entry {
	return context.Entry{Name: name, R: ref(node, shift)}
}

// named returns entries with some names, each of which has a reference of its own.
func named(names ...string) []context.Entry {
	var c []context.Entry
	for i, name := range names {
		c = append(c, entry(name, i, 10*i+5))
	}
	return c
}

// text shows entries; no two lists look the same.
func text(c []context.Entry) string {
	s := ""
	for _, e := range c {
		s += fmt.Sprintf("%q: %d%+d, ", e.Name, e.R.Node, e.R.Shift)
	}
	return s
}

func wantEntries(t *testing.T, what string, got []context.Entry, want ...context.Entry) {
	t.Helper()
	if text(got) != text(want) {
		t.Errorf("%q: got %s\nwant %s", what, text(got), text(want))
	}
}

// everyKind has the nodes 0 !1, 1 int, 2 ?2, 3 bool, 4 +3, 5 end, 6 &4, 7 end and 8 end.
const everyKind = "!1 int.?2 bool.+3 {m: end, l: &4 {y: end, x: end}}"

// prios are the priorities of the actions of everyKind.
var prios = map[int]int{0: 1, 2: 2, 4: 3, 6: 4}

// shifts are those of references that the tests take.
var shifts = []int{0, 1, -1, 7, -50, 1000000, -1000000, math.MaxInt / 2, math.MinInt / 2}

// graphs returns the graph of everyKind, and the closed one; with its dual, each node has the same priority.
func graphs(t *testing.T) []graph.Graph {
	t.Helper()
	g, _ := build(t, everyKind)
	return []graph.Graph{g, dual.Close(g)}
}

// P13.1

func wantFind(t *testing.T, c []context.Entry, name string, want graph.Ref, ok bool) {
	t.Helper()
	if got, found := context.Find(c, name); got != want || found != ok {
		t.Errorf("%s, name %q: got %v and %v, want %v and %v", text(c), name, got, found, want, ok)
	}
}

func TestFind(t *testing.T) {
	c := named("a", "b", "", "ab", "A")
	wantFind(t, c, "a", ref(0, 5), true)
	wantFind(t, c, "b", ref(1, 15), true)
	wantFind(t, c, "", ref(2, 25), true)
	wantFind(t, c, "ab", ref(3, 35), true)
	wantFind(t, c, "A", ref(4, 45), true)
	for _, name := range []string{"c", "B", "aa", "ba", "a ", " a", "a\x00", "\x00", "\xff", "abc", "aB", "0"} {
		wantFind(t, c, name, graph.Ref{}, false)
	}
}

func TestFindWithoutEntries(t *testing.T) {
	for _, c := range [][]context.Entry{nil, {}, make([]context.Entry, 0, 5)} {
		for _, name := range []string{"", "a"} {
			wantFind(t, c, name, graph.Ref{}, false)
		}
	}
}

func TestFindTheFirstOfSeveral(t *testing.T) {
	c := named("b", "a", "b", "a", "", "a", "")
	wantFind(t, c, "a", ref(1, 15), true)
	wantFind(t, c, "b", ref(0, 5), true)
	wantFind(t, c, "", ref(4, 45), true)
	wantFind(t, c, "c", graph.Ref{}, false)
}

// The reference may be the zero one, and may have any numbers: no node is looked at.
func TestFindAnyReference(t *testing.T) {
	for _, r := range []graph.Ref{{}, ref(-1, 0), ref(math.MaxInt, math.MinInt), ref(0, -7)} {
		c := []context.Entry{entry("x", 3, 3), {Name: "a", R: r}}
		wantFind(t, c, "a", r, true)
		wantFind(t, c, "b", graph.Ref{}, false)
		wantEntries(t, "Set", context.Set(c, "x", r), context.Entry{Name: "x", R: r}, context.Entry{Name: "a", R: r})
		wantEntries(t, "Drop", context.Drop(c, "x"), context.Entry{Name: "a", R: r})
	}
}

func TestSetOfEachEntry(t *testing.T) {
	names := []string{"a", "b", "", "ab", "A"}
	for i, name := range names {
		want := named(names...)
		want[i].R = ref(77, -3)
		wantEntries(t, name, context.Set(named(names...), name, ref(77, -3)), want...)
		want[i].R = graph.Ref{}
		wantEntries(t, name, context.Set(named(names...), name, graph.Ref{}), want...)
	}
}

func TestSetAddsAnEntryBehindTheOthers(t *testing.T) {
	c := named("b", "a", "c")
	for _, name := range []string{"", "0", "aa", "d", "A", "b ", "\xff"} {
		wantEntries(t, name, context.Set(c, name, ref(8, 9)), entry("b", 0, 5), entry("a", 1, 15), entry("c", 2, 25), entry(name, 8, 9))
	}
	for _, c := range [][]context.Entry{nil, {}, make([]context.Entry, 0, 5)} {
		for _, name := range []string{"", "a"} {
			wantEntries(t, name, context.Set(c, name, ref(8, 9)), entry(name, 8, 9))
		}
	}
}

func TestSetChangesTheFirstOfSeveral(t *testing.T) {
	c := []context.Entry{entry("b", 0, 1), entry("a", 2, 3), entry("b", 4, 5), entry("a", 6, 7), entry("a", 8, 9)}
	wantEntries(t, "a", context.Set(c, "a", ref(1, 1)),
		entry("b", 0, 1), entry("a", 1, 1), entry("b", 4, 5), entry("a", 6, 7), entry("a", 8, 9))
	wantEntries(t, "b", context.Set(c, "b", ref(1, 1)),
		entry("b", 1, 1), entry("a", 2, 3), entry("b", 4, 5), entry("a", 6, 7), entry("a", 8, 9))
	wantEntries(t, "empty", context.Set(named("a", "", ""), "", ref(1, 1)),
		entry("a", 0, 5), entry("", 1, 1), entry("", 2, 25))
}

func TestDropOfEachEntry(t *testing.T) {
	c := named("a", "b", "", "ab", "A")
	for i, e := range c {
		var want []context.Entry
		want = append(append(want, c[:i]...), c[i+1:]...)
		wantEntries(t, e.Name, context.Drop(c, e.Name), want...)
	}
}

func TestDropOfAllWithAName(t *testing.T) {
	c := named("a", "a", "b", "", "a", "", "b", "a")
	wantEntries(t, "a", context.Drop(c, "a"), c[2], c[3], c[5], c[6])
	wantEntries(t, "b", context.Drop(c, "b"), c[0], c[1], c[3], c[4], c[5], c[7])
	wantEntries(t, "empty", context.Drop(c, ""), c[0], c[1], c[2], c[4], c[6], c[7])
	wantEntries(t, "all", context.Drop(named("a", "a", "a"), "a"))
	wantEntries(t, "one", context.Drop(named("a"), "a"))
}

func TestDropOfOtherNames(t *testing.T) {
	c := named("a", "b", "a", "ab")
	for _, name := range []string{"", "c", "A", "aa", "ba", " a", "a\x00"} {
		wantEntries(t, name, context.Drop(c, name), c...)
	}
	for _, c := range [][]context.Entry{nil, {}, make([]context.Entry, 0, 5)} {
		wantEntries(t, "none", context.Drop(c, ""))
		wantEntries(t, "none", context.Drop(c, "a"))
	}
}

// P13.2

func TestLiveOfEachNode(t *testing.T) {
	for _, g := range graphs(t) {
		for n := range g.Nodes {
			for _, k := range shifts {
				var want []context.Entry
				if _, ok := prios[n%9]; ok {
					want = append(want, entry("a", n, k))
				}
				wantEntries(t, "one entry", context.Live(g, []context.Entry{entry("a", n, k)}), want...)
			}
		}
	}
}

func TestLiveKeepsTheOrder(t *testing.T) {
	for _, g := range graphs(t) {
		c := []context.Entry{entry("i", 1, 0), entry("s", 6, 2), entry("", 0, 0), entry("e", 5, 3), entry("b", 4, -9), entry("bool", 3, 1), entry("a", 2, 1)}
		wantEntries(t, "mixed", context.Live(g, c), c[1], c[2], c[4], c[6])
		wantEntries(t, "all live", context.Live(g, context.Live(g, c)), c[1], c[2], c[4], c[6])
		wantEntries(t, "none live", context.Live(g, []context.Entry{c[5], c[3], c[0]}))
		wantEntries(t, "no entries", context.Live(g, nil))
		wantEntries(t, "no entries", context.Live(g, []context.Entry{}))
	}
	wantEntries(t, "no nodes", context.Live(graph.Graph{}, nil))
}

func TestLiveOfRecursiveTypes(t *testing.T) {
	g, refs := build(t, "rec t.?int.t+1", "rec t.rec u.end", "rec t.+{a: rec u.t+1}", "int", "rec t.&{a: t, b: end}", "bool", "rec t.!t.t")
	var c []context.Entry
	for i, r := range refs {
		c = append(c, context.Entry{Name: string(rune('a' + i)), R: r})
	}
	wantEntries(t, "recursive", context.Live(g, c), c[0], c[2], c[4], c[6])
}

func wantLowest(t *testing.T, g graph.Graph, c []context.Entry, except string, want int, ok bool) {
	t.Helper()
	if got, found := context.Lowest(g, c, except); got != want || found != ok {
		t.Errorf("%s, except %q: got %d and %v, want %d and %v", text(c), except, got, found, want, ok)
	}
}

func TestLowestOfEachNode(t *testing.T) {
	for _, g := range graphs(t) {
		for n := range g.Nodes {
			for _, k := range shifts {
				c := []context.Entry{entry("a", n, k)}
				if prio, ok := prios[n%9]; ok {
					wantLowest(t, g, c, "b", prio+k, true)
					wantLowest(t, g, c, "", prio+k, true)
				} else {
					wantLowest(t, g, c, "b", 0, false)
					wantLowest(t, g, c, "", 0, false)
				}
				wantLowest(t, g, c, "a", 0, false)
			}
		}
	}
}

func TestLowestOfSeveral(t *testing.T) {
	for _, g := range graphs(t) {
		c := []context.Entry{entry("a", 0, 10), entry("b", 2, 8), entry("c", 4, 20), entry("d", 6, 5), entry("e", 5, -99), entry("", 1, -99)}
		wantLowest(t, g, c, "d", 10, true)
		wantLowest(t, g, c, "x", 9, true)
		wantLowest(t, g, c[:2], "a", 10, true)
		wantLowest(t, g, c[:2], "b", 11, true)
		wantLowest(t, g, c[:1], "a", 0, false)
		wantLowest(t, g, c[4:], "x", 0, false)
		wantLowest(t, g, c[3:], "d", 0, false)
		wantLowest(t, g, c, "e", 9, true)
		wantLowest(t, g, c, "", 9, true)
	}
}

// The least priority is that of the first, of a middle or of the last entry; it may be 0 or negative.
func TestLowestInAnyOrder(t *testing.T) {
	g, refs := build(t, "!int.end")
	for _, low := range []int{0, -4, 2, math.MinInt} {
		for at := range 5 {
			var c []context.Entry
			for i := range 5 {
				c = append(c, context.Entry{Name: string(rune('a' + i)), R: refs[0]})
				c[i].R.Shift = 3 + i
			}
			c[at].R.Shift = low
			wantLowest(t, g, c, "", low, true)
			second := 3
			if at == 0 {
				second = 4
			}
			wantLowest(t, g, c, c[at].Name, second, true)
		}
	}
}

func TestLowestWithoutAllEntriesWithTheName(t *testing.T) {
	for _, g := range graphs(t) {
		c := []context.Entry{entry("a", 0, -5), entry("b", 2, 8), entry("a", 4, -20), entry("b", 6, 0), entry("a", 5, 0)}
		wantLowest(t, g, c, "a", 4, true)
		wantLowest(t, g, c, "b", -17, true)
		wantLowest(t, g, c, "", -17, true)
		wantLowest(t, g, []context.Entry{entry("a", 0, 0), entry("a", 2, 0), entry("b", 1, 0)}, "a", 0, false)
	}
}

func TestLowestWithTheEmptyName(t *testing.T) {
	for _, g := range graphs(t) {
		c := []context.Entry{entry("", 0, -5), entry("a", 2, 8)}
		wantLowest(t, g, c, "", 10, true)
		wantLowest(t, g, c, "a", -4, true)
		wantLowest(t, g, c[:1], "", 0, false)
		wantLowest(t, g, nil, "", 0, false)
		wantLowest(t, g, []context.Entry{}, "a", 0, false)
	}
	wantLowest(t, graph.Graph{}, nil, "", 0, false)
}

// P13.3

func wantSplit(t *testing.T, g graph.Graph, c []context.Entry, names []string, in, out []context.Entry) {
	t.Helper()
	gotIn, gotOut := context.Split(g, c, names)
	wantEntries(t, fmt.Sprintf("%q of %s", names, text(c)), gotIn, in...)
	wantEntries(t, fmt.Sprintf("not %q of %s", names, text(c)), gotOut, out...)
}

func TestExampleOfTheChapter(t *testing.T) {
	g, refs := build(t, "end", "!3 int.end")
	c := []context.Entry{{Name: "a", R: refs[0]}, {Name: "b", R: refs[1]}}
	wantSplit(t, g, c, []string{"b"}, c, c[:1])
}

func TestSplitOfOneEntry(t *testing.T) {
	for _, g := range graphs(t) {
		for n := range g.Nodes {
			for _, k := range shifts {
				c := []context.Entry{entry("a", n, k)}
				if _, ok := prios[n%9]; ok {
					wantSplit(t, g, c, []string{"a"}, c, nil)
					wantSplit(t, g, c, []string{"b", "", "aa"}, nil, c)
					wantSplit(t, g, c, nil, nil, c)
				} else {
					wantSplit(t, g, c, []string{"a"}, c, c)
					wantSplit(t, g, c, []string{"b", "", "aa"}, c, c)
					wantSplit(t, g, c, nil, c, c)
				}
			}
		}
	}
}

func TestSplitKeepsTheOrder(t *testing.T) {
	for _, g := range graphs(t) {
		a, b, c, d, e, i := entry("a", 6, 1), entry("b", 2, -3), entry("c", 4, 0), entry("d", 0, 2), entry("e", 8, 0), entry("i", 1, 4)
		all := []context.Entry{d, i, b, e, a, c}
		wantSplit(t, g, all, []string{"a", "b"}, []context.Entry{i, b, e, a}, []context.Entry{d, i, e, c})
		wantSplit(t, g, all, []string{"b", "a"}, []context.Entry{i, b, e, a}, []context.Entry{d, i, e, c})
		wantSplit(t, g, all, []string{"c", "d"}, []context.Entry{d, i, e, c}, []context.Entry{i, b, e, a})
		wantSplit(t, g, all, []string{"a", "b", "c", "d"}, all, []context.Entry{i, e})
		wantSplit(t, g, all, []string{}, []context.Entry{i, e}, all)
		wantSplit(t, g, all, nil, []context.Entry{i, e}, all)
		wantSplit(t, g, all, []string{"e", "i"}, []context.Entry{i, e}, all)
	}
}

func TestSplitWithNamesThatAreNotThere(t *testing.T) {
	for _, g := range graphs(t) {
		c := []context.Entry{entry("a", 0, 0), entry("e", 5, 0), entry("", 4, 0), entry("ab", 2, 0)}
		wantSplit(t, g, c, []string{"b", "A", "aa", " a", "abc", "\xff"}, c[1:2], c)
		wantSplit(t, g, c, []string{"b", "", "x"}, c[1:3], []context.Entry{c[0], c[1], c[3]})
		wantSplit(t, g, nil, []string{"a", ""}, nil, nil)
		wantSplit(t, g, []context.Entry{}, nil, nil, nil)
	}
	wantSplit(t, graph.Graph{}, nil, []string{"a"}, nil, nil)
}

func TestSplitWithNamesThatStandTwice(t *testing.T) {
	for _, g := range graphs(t) {
		c := []context.Entry{entry("a", 0, 0), entry("e", 5, 0), entry("b", 4, 0), entry("c", 2, 0)}
		in, out := []context.Entry{c[0], c[1], c[2]}, []context.Entry{c[1], c[3]}
		wantSplit(t, g, c, []string{"a", "a", "b"}, in, out)
		wantSplit(t, g, c, []string{"b", "x", "a", "x", "b", "e", "e"}, in, out)
		wantSplit(t, g, c, []string{"x", "x"}, c[1:2], c)
	}
}
