package equal_test

import (
	"fmt"
	"math"
	"slices"
	"strings"
	"testing"

	"duologue/api"
	"duologue/dual"
	"duologue/equal"
	"duologue/graph"
	"duologue/parse"
	"duologue/typetree"
)

// types parses the texts of right types.
func types(t *testing.T, sources ...string) []api.Type {
	t.Helper()
	var l []api.Type
	for _, s := range sources {
		a, fault := parse.Type(s)
		if fault.Err != api.OK || typetree.Right(a) != api.OK {
			t.Fatalf("%s: %v, and error %d", s, fault, typetree.Right(a))
		}
		l = append(l, a)
	}
	return l
}

// build returns the graph of the texts of right types, and their references.
func build(t *testing.T, sources ...string) (graph.Graph, []graph.Ref) {
	t.Helper()
	return graph.Build(types(t, sources...))
}

func ref(node, shift int) graph.Ref {
	return graph.Ref{Node: node, Shift: shift}
}

// raised returns a reference with a number added to its Shift.
func raised(r graph.Ref, k int) graph.Ref {
	return ref(r.Node, r.Shift+k)
}

// everyKind has the nodes 0 !1, 1 int, 2 ?2, 3 bool, 4 +3, 5 end, 6 &4, 7 end and 8 end.
const everyKind = "!1 int.?2 bool.+3 {m: end, l: &4 {y: end, x: end}}"

// circles has the nodes 0 !1, 1 &2, 2 ?3 and 3 +4, and 4 end; most of their references Next have a Shift.
const circles = "rec t.!1 (t+10).&2 {a: t+20, b: rec u.?3 (u+100).+4 {l: t+30, m: u+200, n: end}}"

// shifts are the numbers by which the tests raise references.
var shifts = []int{0, 1, -1, 7, -50, 1000000, -1000000, 1 << 40, math.MinInt / 4}

// verdict tells how a reference a is to a reference b: whether they are alike, and whether a that is raised by k is equal to b.
type verdict struct {
	alike, ok bool
	k         int
}

var (
	same  = verdict{alike: true, ok: true}
	alike = verdict{alike: true}
	other = verdict{}
)

// higher is the verdict for a reference to an action that is equal to the other one when it is raised by k.
func higher(k int) verdict {
	return verdict{alike: true, ok: true, k: k}
}

// wantCalls checks the three functions for two references in one order.
func wantCalls(t *testing.T, g graph.Graph, a, b graph.Ref, want verdict) {
	t.Helper()
	if got := equal.Equal(g, a, b); got != (want.ok && want.k == 0) {
		t.Errorf("Equal of %v and %v: got %v, want %v", a, b, got, !got)
	}
	if got := equal.Alike(g, a, b); got != want.alike {
		t.Errorf("Alike of %v and %v: got %v, want %v", a, b, got, !got)
	}
	if k, ok := equal.Offset(g, a, b); k != want.k || ok != want.ok {
		t.Errorf("Offset of %v and %v: got %d and %v, want %d and %v", a, b, k, ok, want.k, want.ok)
	}
}

// isAction reports whether a reference has a priority.
func isAction(g graph.Graph, r graph.Ref) bool {
	return g.Nodes[r.Node].Kind >= api.TSend
}

// wantVerdict checks the three functions for two references in both orders, as they are, raised by the same number, and one of them raised.
func wantVerdict(t *testing.T, g graph.Graph, a, b graph.Ref, want verdict) {
	t.Helper()
	back := want
	back.k = -want.k
	for _, k := range shifts {
		wantCalls(t, g, raised(a, k), raised(b, k), want)
		wantCalls(t, g, raised(b, k), raised(a, k), back)
		more, moreBack := want, back
		if want.ok && isAction(g, a) {
			more.k, moreBack.k = want.k-k, back.k+k
		}
		wantCalls(t, g, raised(a, k), b, more)
		wantCalls(t, g, b, raised(a, k), moreBack)
	}
}

// wantTypes checks the verdict for the references of two types in the graph of both, and in its closed graph for them and for their duals.
func wantTypes(t *testing.T, a, b string, want verdict) {
	t.Helper()
	g, refs := build(t, a, b)
	wantVerdict(t, g, refs[0], refs[1], want)
	g = dual.Close(g)
	wantVerdict(t, g, refs[0], refs[1], want)
	wantVerdict(t, g, dual.Of(g, refs[0]), dual.Of(g, refs[1]), want)
	if t.Failed() {
		t.Fatalf("for %s and %s", a, b)
	}
}

// P10.1

func TestEveryKind(t *testing.T) {
	kinds := []string{"int", "bool", "end", "!int.end", "?int.end", "+{a: end}", "&{a: end}"}
	for i, a := range kinds {
		for j, b := range kinds {
			want := other
			if i == j {
				want = same
			}
			wantTypes(t, a, b, want)
		}
	}
}

func TestReferenceAndItself(t *testing.T) {
	for _, source := range []string{"int", "bool", "end", everyKind, circles, "rec t.!(t).t", "rec t.+{a: t+1, b: t}"} {
		g, _ := build(t, source)
		for _, g := range []graph.Graph{g, dual.Close(g)} {
			for n := range g.Nodes {
				wantVerdict(t, g, ref(n, 0), ref(n, 0), same)
				wantVerdict(t, g, ref(n, 3), ref(n, 3), same)
			}
		}
	}
}

// One of all nodes is different: its Kind, its priority, or its labels.
func TestOneNodeThatIsDifferent(t *testing.T) {
	const first = "!1 int.?2 bool.+3 {m: end, l: &4 {y: !5 (?6 int.end).end, x: end}}"
	wantTypes(t, first, first, same)
	for _, second := range []string{
		"?1 int.?2 bool.+3 {m: end, l: &4 {y: !5 (?6 int.end).end, x: end}}",
		"!1 bool.?2 bool.+3 {m: end, l: &4 {y: !5 (?6 int.end).end, x: end}}",
		"!1 end.?2 bool.+3 {m: end, l: &4 {y: !5 (?6 int.end).end, x: end}}",
		"!1 int.!2 bool.+3 {m: end, l: &4 {y: !5 (?6 int.end).end, x: end}}",
		"!1 int.?2 int.+3 {m: end, l: &4 {y: !5 (?6 int.end).end, x: end}}",
		"!1 int.?2 bool.&3 {m: end, l: &4 {y: !5 (?6 int.end).end, x: end}}",
		"!1 int.?2 bool.+3 {m: end, l: +4 {y: !5 (?6 int.end).end, x: end}}",
		"!1 int.?2 bool.+3 {m: end, l: &4 {y: ?5 (?6 int.end).end, x: end}}",
		"!1 int.?2 bool.+3 {m: end, l: &4 {y: !5 (!6 int.end).end, x: end}}",
		"!1 int.?2 bool.+3 {m: end, l: &4 {y: !5 (?6 bool.end).end, x: end}}",
		"!1 int.?2 bool.+3 {m: end, l: &4 {y: !5 (?6 int.?7 int.end).end, x: end}}",
		"!1 int.?2 bool.+3 {m: end, l: &4 {y: !5 (?6 int.end).!7 int.end, x: end}}",
		"!1 int.?2 bool.+3 {m: ?int.end, l: &4 {y: !5 (?6 int.end).end, x: end}}",
		"!1 int.?2 bool.+3 {k: end, l: &4 {y: !5 (?6 int.end).end, x: end}}",
		"!1 int.?2 bool.+3 {m: end, l: &4 {y: !5 (?6 int.end).end, w: end}}",
		"!1 int.?2 bool.+3 {m: end, l: &4 {y: !5 (?6 int.end).end}}",
		"!1 int.?2 bool.+3 {m: end, l: &4 {y: !5 (?6 int.end).end, x: end, z: end}}",
		"!1 int.end", "int", "end",
	} {
		wantTypes(t, first, second, other)
	}
	for _, second := range []string{
		"!0 int.?2 bool.+3 {m: end, l: &4 {y: !5 (?6 int.end).end, x: end}}",
		"!1 int.?3 bool.+3 {m: end, l: &4 {y: !5 (?6 int.end).end, x: end}}",
		"!1 int.?2 bool.+1000000 {m: end, l: &4 {y: !5 (?6 int.end).end, x: end}}",
		"!1 int.?2 bool.+3 {m: end, l: &5 {y: !5 (?6 int.end).end, x: end}}",
		"!1 int.?2 bool.+3 {m: end, l: &4 {y: !4 (?6 int.end).end, x: end}}",
		"!1 int.?2 bool.+3 {m: end, l: &4 {y: !5 (?5 int.end).end, x: end}}",
	} {
		wantTypes(t, first, second, alike)
	}
}

func TestPayloadsAndRests(t *testing.T) {
	wantTypes(t, "!int.end", "!bool.end", other)
	wantTypes(t, "?end.end", "?int.end", other)
	wantTypes(t, "?(!int.end).end", "?end.!int.end", other)
	wantTypes(t, "!(!int.end).?int.end", "!(?int.end).!int.end", other)
	wantTypes(t, "!1 (!2 int.end).end", "!1 (!2 int.end).end", same)
	wantTypes(t, "!1 (!2 int.end).end", "!1 (!3 int.end).end", alike)
	wantTypes(t, "?1 int.!2 int.end", "?1 int.!3 int.end", alike)
	wantTypes(t, "?1 (!2 int.end).!3 int.end", "?1 (!3 int.end).!2 int.end", alike)
	wantTypes(t, "!(!(!(!int.end).end).end).end", "!(!(!(!int.end).end).end).end", same)
	wantTypes(t, "!(!(!(!int.end).end).end).end", "!(!(!(!end.end).end).end).end", other)
	wantTypes(t, "!(!(!(!int.end).end).end).end", "!(!(!(!1 int.end).end).end).end", alike)
}

func TestLabels(t *testing.T) {
	wantTypes(t, "+{a: end, b: !int.end}", "+{b: !int.end, a: end}", same)
	wantTypes(t, "+{a: end, b: !int.end}", "+{a: !int.end, b: end}", other)
	wantTypes(t, "+{a: end, b: !1 int.end}", "+{b: !2 int.end, a: end}", alike)
	wantTypes(t, "&{a: end, b: end}", "&{a: end}", other)
	wantTypes(t, "&{a: end, b: end}", "&{a: end, c: end}", other)
	wantTypes(t, "&{a: end, b: end, c: end}", "&{c: end, a: end, b: end}", same)
	wantTypes(t, "&{a: end}", "&{A: end}", other)
	wantTypes(t, "+{ab: end, c: end}", "+{a: end, bc: end}", other)
	wantTypes(t, "+{n: end, n10: ?int.end, n2: !int.end}", "+{n2: !int.end, n10: ?int.end, n: end}", same)
	wantTypes(t, "+{n: end, n10: ?int.end, n2: !int.end}", "+{n10: !int.end, n2: ?int.end, n: end}", other)
	wantTypes(t, "+1 {x: &2 {p: end, q: !int.end, r: ?int.end}, y: end}", "+1 {y: end, x: &2 {r: ?int.end, p: end, q: !int.end}}", same)
	wantTypes(t, "+1 {x: &2 {p: end, q: !int.end, r: ?int.end}, y: end}", "+1 {y: end, x: &2 {r: ?int.end, q: end, p: !int.end}}", other)
	wantTypes(t, "rec t.+{a: t, b: &{c: t+1, d: end}}", "rec t.+{b: &{d: end, c: t+1}, a: +{a: t, b: &{d: end, c: t+1}}}", same)
	wantTypes(t, "rec t.+{a: t, b: t}", "rec t.+{b: +{b: t, a: t}, a: +{a: t, b: t}}", same)
}

// The sum of the priority and the Shift counts.
func TestShifts(t *testing.T) {
	g, refs := build(t, "!1 int.?2 int.end", "!4 int.?5 int.end", "int", "end", "!4 int.?7 int.end")
	a, b, number, end, c := refs[0], refs[1], refs[2], refs[3], refs[4]
	wantCalls(t, g, raised(a, 3), b, same)
	wantCalls(t, g, raised(a, 2), b, higher(1))
	wantCalls(t, g, raised(a, 10), raised(b, 7), same)
	wantCalls(t, g, a, raised(b, -3), same)
	wantCalls(t, g, a, a, same)
	wantCalls(t, g, a, raised(a, 1), higher(1))
	wantCalls(t, g, raised(a, 1), a, higher(-1))
	wantCalls(t, g, raised(a, 3), c, alike)
	wantCalls(t, g, raised(number, 5), number, same)
	wantCalls(t, g, raised(end, 5), raised(end, -5), same)
	wantCalls(t, g, raised(end, 5), raised(number, 5), other)
	wantTypes(t, "!0 int.rec t.!1 int.t", "!0 int.rec t.!0 int.t", alike)
	wantTypes(t, "rec t.!0 int.t+1", "rec t.!0 int.t+2", alike)
	wantTypes(t, "rec t.!0 int.t+1", "rec t.!0 int.!1 int.t+2", same)
	wantTypes(t, "rec t.!0 int.t+1", "rec t.!0 int.!1 int.t+1", alike)
	wantTypes(t, "rec t.!0 int.t+1", "rec t.!0 int.rec u.!1 int.u+1", same)
	wantTypes(t, "rec t.!0 (t+1).t+2", "rec t.!0 (rec u.!1 (u+1).u+2).t+2", same)
	wantTypes(t, "rec t.!0 (t+1).t+2", "rec t.!0 (rec u.!1 (u+2).u+1).t+2", alike)
	wantTypes(t, "rec t.+{a: t+1, b: t+2}", "rec t.+{b: t+2, a: t+1}", same)
	wantTypes(t, "rec t.+{a: t+1, b: t+2}", "rec t.+{a: t+2, b: t+1}", alike)
}

func TestExamples(t *testing.T) {
	wantTypes(t, "rec t.!0 int.t+1", "!0 int.rec t.!1 int.t+1", same)
	wantTypes(t, "rec t.!1 int.t+2", "rec t.!1 int.!3 int.t+4", same)
}

// Types that differ as texts, and have the same infinite tree.
func TestTypesThatUnfoldToTheSame(t *testing.T) {
	for _, l := range [][]string{
		{"rec t.!int.t", "!int.rec t.!int.t", "rec u.!int.!int.u", "rec t.!int.rec u.!int.t", "!int.!int.!int.rec t.!int.!int.!int.t", "rec t.rec u.!int.t"},
		{"rec t.!0 int.t+1", "!0 int.rec t.!1 int.t+1", "!0 int.!1 int.rec t.!2 int.t+1", "rec t.!0 int.!1 int.!2 int.t+3", "!0 int.rec t.!1 int.!2 int.t+2"},
		{"rec t.?7 (t+5).t+6", "?7 (rec t.?12 (t+5).t+6).rec t.?13 (t+5).t+6", "rec t.?7 (?12 (t+10).t+11).t+6", "rec t.?7 (t+5).?13 (t+11).t+12"},
		{"rec t.+{a: t, b: end}", "rec t.+{b: end, a: +{a: t, b: end}}", "+{a: rec t.+{b: end, a: t}, b: end}"},
		{"rec t.!int.?bool.t", "!int.rec t.?bool.!int.t", "rec t.!int.?bool.!int.?bool.t", "!int.?bool.rec t.!int.?bool.!int.?bool.!int.?bool.t"},
		{"end", "rec t.end", "rec t.rec u.end"},
		{"!int.end", "rec t.!int.end", "!int.rec t.end", "rec t.!int.rec t.end"},
		{"rec t.&{a: rec u.+{b: t, c: u}}", "rec t.&{a: +{b: t, c: rec u.+{b: t, c: u}}}", "rec t.&{a: rec u.+{b: &{a: u}, c: u}}"},
	} {
		for _, a := range l {
			for _, b := range l {
				wantTypes(t, a, b, same)
			}
		}
	}
}

// chain returns the text of a type that sends payloads one after the other, and goes on with an end: that of a word of them.
func chain(word, end string) string {
	s := ""
	for _, c := range word {
		switch c {
		case 'i':
			s += "!int."
		case 'b':
			s += "!bool."
		default:
			s += fmt.Sprintf("!%c int.", c)
		}
	}
	return s + end
}

// circle returns the text of a type that sends the payloads of a word again and again.
func circle(word string) string {
	return "rec t." + chain(word, "t")
}

func TestChainsThatDifferAtTheEnd(t *testing.T) {
	long := strings.Repeat("i", 98)
	wantTypes(t, chain(long, "end"), chain(long, "end"), same)
	wantTypes(t, chain(long, "end"), chain(long[1:], "end"), other)
	wantTypes(t, chain(long, "end"), chain(long[1:]+"b", "end"), other)
	wantTypes(t, chain(long, "end"), chain(long[1:]+"1", "end"), alike)
	wantTypes(t, chain(long[1:], "end"), chain(long[1:], "rec t.end"), same)
	wantTypes(t, chain(long[2:], "end"), circle(long[2:]), other)
	wantTypes(t, circle("i"), circle(long[2:]), same)
	wantTypes(t, circle("i"), circle(long[3:]+"b"), other)
	wantTypes(t, circle("i"), circle(long[3:]+"2"), alike)
}

func TestCirclesOfDifferentLengths(t *testing.T) {
	for _, n := range []int{1, 2, 3, 5, 8, 13, 31, 48} {
		word := strings.Repeat("i", n-1) + "b"
		wantTypes(t, circle(word), circle(word+word), same)
		wantTypes(t, circle(word), chain(word, circle(word)), same)
		wantTypes(t, circle(word), circle(word+"i"), other)
		wantTypes(t, circle(word), circle("i"+word), other)
		wantTypes(t, circle(word+word), circle(word+"1"+word[1:]), map[bool]verdict{true: other, false: alike}[n == 1])
	}
	wantTypes(t, circle(strings.Repeat("ib", 47)), circle(strings.Repeat("ib", 46)), same)
	wantTypes(t, circle(strings.Repeat("iib", 32)), circle(strings.Repeat("iib", 31)), same)
	wantTypes(t, circle(strings.Repeat("iib", 32)), circle(strings.Repeat("iib", 31)+"iii"), other)
}

// The words of Fibonacci: two of them one after the other, repeated, agree for as many letters as both have, less two.
func TestTreesThatDifferAfterManySteps(t *testing.T) {
	for _, letters := range []string{"ib", "i1"} {
		want := map[string]verdict{"ib": other, "i1": alike}[letters]
		short, long := letters[:1], letters
		for len(long) <= 89 {
			a, b := strings.Repeat(short, 200)[:200], strings.Repeat(long, 200)[:200]
			if steps := len(short) + len(long) - 2; a[:steps] != b[:steps] || a[steps] == b[steps] {
				t.Fatalf("%s and %s do not differ after %d steps", short, long, steps)
			}
			wantTypes(t, circle(short), circle(long), want)
			wantTypes(t, circle(long), circle(long), same)
			short, long = long, long+short
		}
	}
}

// Two references of one type can be equal, and there are shifts within the circle.
func TestReferencesWithinOneType(t *testing.T) {
	g, refs := build(t, "rec t.!0 int.!1 int.!2 (t+1).t+3")
	if len(refs) != 1 || len(g.Nodes) != 5 {
		t.Fatalf("%d nodes", len(g.Nodes))
	}
	wantVerdict(t, g, ref(0, 0), ref(2, 0), other)
	g, _ = build(t, "rec t.!0 int.!1 int.!2 int.t+3")
	wantVerdict(t, g, ref(0, 0), ref(2, 0), higher(1))
	wantVerdict(t, g, ref(0, 0), ref(4, 0), higher(2))
	wantVerdict(t, g, ref(2, 0), ref(4, 0), higher(1))
	wantVerdict(t, g, ref(1, 0), ref(3, 9), same)
	g, _ = build(t, "rec t.!0 int.!1 int.!2 int.t+4")
	wantVerdict(t, g, ref(0, 0), ref(2, 0), alike)
}

// A dual is another type than the type itself, if it has an action that is not within a payload only.
func TestTypesAndDuals(t *testing.T) {
	for _, source := range []string{everyKind, circles, "rec t.!int.t", "rec t.+{a: t, b: end}", "!(?int.end).end"} {
		g, refs := build(t, source)
		g = dual.Close(g)
		r := dual.Of(g, refs[0])
		wantVerdict(t, g, refs[0], r, other)
		wantVerdict(t, g, refs[0], dual.Of(g, r), same)
	}
	for _, source := range []string{"end", "rec t.end"} {
		g, refs := build(t, source)
		g = dual.Close(g)
		wantVerdict(t, g, refs[0], dual.Of(g, refs[0]), same)
	}
	for _, x := range [][2]string{
		{"rec t.!3 (?1 int.end).t+1", "?3 (?1 int.end).rec t.?4 (?2 int.end).t+1"},
		{"rec t.!(t).t", "rec t.?(rec u.!(u).u).t"},
		{"+{a: end, b: rec t.?int.t}", "&{b: rec t.!int.!int.t, a: end}"},
	} {
		g, refs := build(t, x[:]...)
		g = dual.Close(g)
		wantVerdict(t, g, dual.Of(g, refs[0]), refs[1], same)
		wantVerdict(t, g, dual.Of(g, refs[1]), refs[0], same)
	}
}

// P10.2

func TestOffset(t *testing.T) {
	wantTypes(t, "!1 int.end", "!4 int.end", higher(3))
	wantTypes(t, "!4 int.end", "!1 int.end", higher(-3))
	wantTypes(t, "!0 int.end", "!1000000 int.end", higher(1000000))
	wantTypes(t, "?0 int.!1 int.end", "?3 int.!4 int.end", higher(3))
	wantTypes(t, "!0 (!5 int.end).end", "!3 (!8 int.end).end", higher(3))
	wantTypes(t, "+5 {a: end, b: !5 int.end}", "+3 {b: !3 int.end, a: end}", higher(-2))
	wantTypes(t, "rec t.!0 int.t+1", "rec t.!5 int.t+1", higher(5))
	wantTypes(t, "rec t.!0 int.t+1", "!5 int.!6 int.rec t.!7 int.t+1", higher(5))
	wantTypes(t, "rec t.&9 {a: t+1, b: end}", "rec t.&2 {b: end, a: &3 {a: t+2, b: end}}", higher(-7))
	wantTypes(t, "end", "end", same)
	wantTypes(t, "int", "int", same)
	wantTypes(t, "bool", "bool", same)
}

func TestNoOffset(t *testing.T) {
	wantTypes(t, "!0 int.!1 int.end", "!3 int.!5 int.end", alike)
	wantTypes(t, "!3 int.!0 int.end", "!5 int.!0 int.end", alike)
	wantTypes(t, "!0 int.!0 int.end", "!0 int.!3 int.end", alike)
	wantTypes(t, "!0 (!5 int.end).end", "!3 (!5 int.end).end", alike)
	wantTypes(t, "!0 (!5 int.end).?1 int.end", "!3 (!8 int.end).?5 int.end", alike)
	wantTypes(t, "!0 (!5 int.end).?1 int.end", "!3 (!9 int.end).?4 int.end", alike)
	wantTypes(t, "+1 {a: !1 int.end, b: !2 int.end}", "+2 {a: !2 int.end, b: !2 int.end}", alike)
	wantTypes(t, "+1 {a: !1 int.end, b: !2 int.end}", "+2 {a: !3 int.end, b: !3 int.end}", alike)
	wantTypes(t, "rec t.!0 int.t", "rec t.!5 int.t+1", alike)
	wantTypes(t, "rec t.!0 int.t", "rec t.!2 int.!2 int.!2 int.t+1", alike)
	wantTypes(t, "!1 int.end", "!1 bool.end", other)
	wantTypes(t, "!1 int.end", "!4 bool.end", other)
	wantTypes(t, "!0 int.end", "end", other)
	wantTypes(t, "!7 int.end", "int", other)
	wantTypes(t, "?7 int.end", "!9 int.end", other)
	wantTypes(t, "end", "int", other)
	wantTypes(t, "int", "bool", other)
}

// P10.3

// wantClasses checks the classes of a graph.
func wantClasses(t *testing.T, g graph.Graph, want ...int) {
	t.Helper()
	if got := equal.Classes(g); !slices.Equal(got, want) {
		t.Errorf("got the classes %v, want %v", got, want)
	}
}

func TestClassesOfTheEmptyGraph(t *testing.T) {
	wantClasses(t, graph.Graph{})
	wantClasses(t, graph.Graph{Nodes: []graph.Node{}})
	g, _ := graph.Build(nil)
	wantClasses(t, g)
	wantClasses(t, dual.Close(g))
}

func TestClasses(t *testing.T) {
	for _, x := range []struct {
		sources []string
		want    []int
	}{
		{[]string{"int"}, []int{0}},
		{[]string{"int", "int", "bool", "end", "bool", "int", "end"}, []int{0, 0, 2, 3, 2, 0, 3}},
		{[]string{"!int.end"}, []int{0, 1, 2}},
		{[]string{everyKind}, []int{0, 1, 2, 3, 4, 5, 6, 5, 5}},
		{[]string{circles}, []int{0, 1, 2, 3, 4}},
		{[]string{"!int.!int.end"}, []int{0, 1, 2, 1, 4}},
		{[]string{"rec t.!int.!int.t"}, []int{0, 1, 0, 1}},
		{[]string{"rec t.!int.!int.t+1"}, []int{0, 1, 2, 1}},
		{[]string{"rec t.!int.!1 int.t+2"}, []int{0, 1, 2, 1}},
		{[]string{"!int.!bool.rec t.!int.!bool.t"}, []int{0, 1, 2, 3, 0, 1, 2, 3}},
		{[]string{"!(!end.end).end", "!end.end"}, []int{0, 1, 2, 2, 2, 1, 2, 2}},
		{[]string{"!1 int.end", "?1 int.end", "!2 int.end", "!1 int.end", "!1 bool.end"}, []int{0, 1, 2, 3, 1, 2, 6, 1, 2, 0, 1, 2, 12, 13, 2}},
		{[]string{"!1 int.!5 int.end", "!2 int.!6 int.end", "!1 int.!6 int.end"}, []int{0, 1, 2, 1, 4, 5, 1, 7, 1, 4, 10, 1, 7, 1, 4}},
		{[]string{"+{a: end, b: !int.end}", "+{b: !int.end, a: end}", "+{b: end, a: !int.end}", "+{a: end}", "&{a: end}"},
			[]int{0, 1, 2, 3, 1, 0, 2, 3, 1, 1, 10, 1, 2, 3, 1, 15, 1, 17, 1}},
		{[]string{"+{ab: end, c: end}", "+{a: end, bc: end}", "+{c: end, ab: end}"}, []int{0, 1, 1, 3, 1, 1, 0, 1, 1}},
		{[]string{"rec t.!0 int.t+1", "!0 int.rec t.!1 int.t+1", "rec t.!1 int.t+1"}, []int{0, 1, 0, 1, 4, 1, 4, 1}},
		{[]string{"rec t.!(t).t", "rec t.!(!(t).t).!(t).t", "rec t.?(t).t"}, []int{0, 0, 0, 0, 4}},
		{[]string{"rec t.+{a: t+1, b: t}", "rec t.+{b: t, a: t+1}", "rec t.+{b: t+1, a: t}"}, []int{0, 0, 2}},
	} {
		g, _ := build(t, x.sources...)
		wantClasses(t, g, x.want...)
		if t.Failed() {
			t.Fatalf("for %q", x.sources)
		}
	}
}

func TestClassesOfClosedGraphs(t *testing.T) {
	for _, x := range []struct {
		sources []string
		want    []int
	}{
		{[]string{"int"}, []int{0, 0}},
		{[]string{"end", "bool"}, []int{0, 1, 0, 1}},
		{[]string{"!int.end"}, []int{0, 1, 2, 3, 1, 2}},
		{[]string{"!int.end", "?int.end"}, []int{0, 1, 2, 3, 1, 2, 3, 1, 2, 0, 1, 2}},
		{[]string{"!1 int.end", "?int.end"}, []int{0, 1, 2, 3, 1, 2, 6, 1, 2, 9, 1, 2}},
		{[]string{"rec t.!(t).t"}, []int{0, 1}},
		{[]string{"rec t.!(t).t", "rec t.?(rec u.!(u).u).t"}, []int{0, 1, 0, 1, 0, 1}},
		{[]string{"+{a: end, b: ?int.end}", "&{b: !int.end, a: end}"}, []int{0, 1, 2, 3, 1, 5, 6, 3, 1, 1, 5, 1, 6, 3, 1, 0, 2, 3, 1, 1}},
		{[]string{everyKind}, []int{0, 1, 2, 3, 4, 5, 6, 5, 5, 9, 1, 11, 3, 13, 5, 15, 5, 5}},
	} {
		g, _ := build(t, x.sources...)
		wantClasses(t, dual.Close(g), x.want...)
		if t.Failed() {
			t.Fatalf("for %q", x.sources)
		}
	}
}

// Nodes that differ after many steps only are in classes of their own.
func TestClassesOfLongTypes(t *testing.T) {
	const n = 98
	g, _ := build(t, chain(strings.Repeat("i", n), "end"), chain(strings.Repeat("i", n-1), "end"), circle(strings.Repeat("i", n-2)))
	var want []int
	for i := range 2*n + 1 {
		want = append(want, map[bool]int{true: 1, false: i}[i%2 == 1])
	}
	want = append(want, want[2:]...)
	first := len(want)
	for range n - 2 {
		want = append(want, first, 1)
	}
	wantClasses(t, g, want...)
}

// P10.4

// equalGroups has types of which those of one list are equal, and those of different lists are not.
var equalGroups = [][]string{
	{"int"}, {"bool"}, {"end", "rec t.end"},
	{"rec t.!0 int.t+1", "!0 int.rec t.!1 int.t+1", "rec t.!0 int.!1 int.t+2"},
	{"rec t.!0 int.t", "rec t.!0 int.!0 int.!0 int.t", "!0 int.rec t.!0 int.!0 int.t"},
	{"rec t.!1 int.t+1"}, {"rec t.?0 int.t+1"},
	{circles}, {everyKind, "!1 int.?2 bool.+3 {l: &4 {x: end, y: end}, m: end}"},
	{"rec t.&{a: t, b: end}", "rec t.&{b: end, a: &{a: t, b: end}}", "&{a: rec t.&{b: end, a: t}, b: end}"},
}

// Each is equal to itself, the order of two does not matter, what is equal to one of two equal ones is equal to the other, and raising changes nothing.
func TestEquivalence(t *testing.T) {
	var l []string
	var groups []int
	for i, group := range equalGroups {
		for _, s := range group {
			l, groups = append(l, s), append(groups, i)
		}
	}
	g, refs := build(t, l...)
	for i, a := range refs {
		for j, b := range refs {
			for _, k := range shifts {
				want := groups[i] == groups[j]
				if got := equal.Equal(g, raised(a, k), raised(b, k)); got != want {
					t.Errorf("%s and %s, raised by %d: got %v, want %v", l[i], l[j], k, got, want)
				}
			}
		}
	}
}
