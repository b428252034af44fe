package readback_test

import (
	"fmt"
	"strings"
	"testing"

	"duologue/api"
	"duologue/dual"
	"duologue/equal"
	"duologue/graph"
	"duologue/parse"
	"duologue/readback"
	"duologue/show"
	"duologue/typetree"
)

// types parses the texts of right types.
func types(t *testing.T, sources ...string) []api.Type {
	t.Helper()
	var l []api.Type
	for _, s := range sources {
		a, fault := parse.Type(s)
		if fault.Err != api.OK || typetree.Right(a) != api.OK {
			t.Fatalf("%s: %v, and error %d", s, fault, typetree.Right(a))
		}
		l = append(l, a)
	}
	return l
}

// build returns the graph of the texts of right types, and their references.
func build(t *testing.T, sources ...string) (graph.Graph, []graph.Ref) {
	t.Helper()
	return graph.Build(types(t, sources...))
}

func ref(node, shift int) graph.Ref {
	return graph.Ref{Node: node, Shift: shift}
}

// everyKind has the nodes 0 !1, 1 int, 2 ?2, 3 bool, 4 +3, 5 end, 6 &4, 7 end and 8 end.
const everyKind = "!1 int.?2 bool.+3 {m: end, l: &4 {y: end, x: end}}"

// circles has the nodes 0 !1, 1 &2, 2 ?3 and 3 +4, and 4 end; most of their references Next have a Shift.
const circles = "rec t.!1 (t+10).&2 {b: t+20, a: rec u.?3 (u+100).+4 {l: t+30, m: u+200, n: end}}"

// wantText checks the normal tree of a reference by its text, and the text.
func wantText(t *testing.T, g graph.Graph, r graph.Ref, want string) {
	t.Helper()
	tree := readback.Normal(g, r)
	if got := show.Type(tree); got != want {
		t.Errorf("Normal of %v: got %s, want %s", r, got, want)
	}
	if got := readback.Text(g, r); got != want {
		t.Errorf("Text of %v: got %s, want %s", r, got, want)
	}
	// All fields are those of the text, if it is within the limits.
	if parsed, fault := parse.Type(want); fault.Err == api.OK && !typetree.Same(parsed, tree) {
		t.Errorf("Normal of %v: the tree is not that of its text %s", r, want)
	}
}

// wantCanonical checks the normal tree of a type: of the type alone, of its tree, and in a graph of both and of another type.
func wantCanonical(t *testing.T, source, want string) {
	t.Helper()
	l := types(t, circles, source, want)
	for _, a := range l[1:] {
		if got := readback.Canonical(a); !typetree.Same(got, l[2]) {
			t.Errorf("Canonical of %s: got %s, want %s", show.Type(a), show.Type(got), want)
		}
	}
	g, refs := graph.Build(l)
	if !equal.Equal(g, refs[1], refs[2]) {
		t.Errorf("%s and %s are not equal", source, want)
	}
	for _, r := range refs[1:] {
		wantText(t, g, r, show.Type(l[2]))
		wantText(t, dual.Close(g), r, show.Type(l[2]))
	}
}

// wantSame checks types that are normal trees themselves.
func wantSame(t *testing.T, sources ...string) {
	t.Helper()
	for _, s := range sources {
		wantCanonical(t, s, s)
	}
}

// P12.1: nodes of every Kind

func TestTypesWithoutRecursion(t *testing.T) {
	wantSame(t, "int", "bool", "end",
		"!int.end", "!7 bool.end", "?end.end", "?7 (!8 int.end).!9 bool.end", "!(!(!(!int.end).end).end).end",
		"+{a: end}", "+7{a: end, b: !8 int.end}", "&{a: end}", "&7{a: +{b: end, c: end}, b: !8 int.end}",
		"!1000000 (?1000000 (+1000000{a: &1000000{a: end}}).end).end")
	wantCanonical(t, everyKind, "!1 int.?2 bool.+3{l: &4{x: end, y: end}, m: end}")
}

// Priorities have the Shift of the reference; other nodes have none.
func TestNodesOfEveryKind(t *testing.T) {
	g, _ := build(t, everyKind)
	for _, g := range []graph.Graph{g, dual.Close(g)} {
		for n, texts := range [][2]string{
			{"!1 int.?2 bool.+3{l: &4{x: end, y: end}, m: end}", "!6 int.?7 bool.+8{l: &9{x: end, y: end}, m: end}"},
			{"int", "int"},
			{"?2 bool.+3{l: &4{x: end, y: end}, m: end}", "?7 bool.+8{l: &9{x: end, y: end}, m: end}"},
			{"bool", "bool"},
			{"+3{l: &4{x: end, y: end}, m: end}", "+8{l: &9{x: end, y: end}, m: end}"},
			{"end", "end"},
			{"&4{x: end, y: end}", "&9{x: end, y: end}"},
			{"end", "end"},
			{"end", "end"},
		} {
			wantText(t, g, ref(n, 0), texts[0])
			wantText(t, g, ref(n, 5), texts[1])
		}
		wantText(t, g, ref(0, -1), "!int.?1 bool.+2{l: &3{x: end, y: end}, m: end}")
		wantText(t, g, ref(6, -4), "&{x: end, y: end}")
		wantText(t, g, ref(0, 999996), "!999997 int.?999998 bool.+999999{l: &1000000{x: end, y: end}, m: end}")
		wantText(t, g, ref(1, -3), "int")
		wantText(t, g, ref(3, 1000000), "bool")
		wantText(t, g, ref(5, -1000000), "end")
	}
}

func TestNodesOfClosedGraphs(t *testing.T) {
	g, _ := build(t, everyKind)
	g = dual.Close(g)
	wantText(t, g, ref(9, 0), "?1 int.!2 bool.&3{l: +4{x: end, y: end}, m: end}")
	wantText(t, g, ref(9, 2), "?3 int.!4 bool.&5{l: +6{x: end, y: end}, m: end}")
	wantText(t, g, ref(13, -3), "&{l: +1{x: end, y: end}, m: end}")
	for n, want := range []string{"int", "!2 bool.&3{l: +4{x: end, y: end}, m: end}", "bool"} {
		wantText(t, g, ref(10+n, 0), want)
	}
	// A payload stays as it is, also that of a dual.
	g, refs := build(t, "!1 (?2 int.+3{a: end}).&4 {b: end, a: ?(+{c: end}).end}")
	g = dual.Close(g)
	wantText(t, g, dual.Of(g, refs[0]), "?1 (?2 int.+3{a: end}).+4{a: !(+{c: end}).end, b: end}")
	g, refs = build(t, "rec t.!3 (?1 int.end).t+1", "rec t.!(?int.end).t", "rec t.!t.t", "rec t.+{b: t+1, a: ?t+3.t}")
	g = dual.Close(g)
	for i, want := range []string{"rec r0.?3 (?1 int.end).r0+1", "rec r0.?(?int.end).r0", "rec r0.?(rec r1.!r1.r1).r0",
		"rec r0.&{a: !(rec r2.+3{a: ?3 r2+3.r2, b: r2+1}).r0, b: r0+1}"} {
		wantText(t, g, dual.Of(g, refs[i]), want)
	}
}

func TestNodesOfCircles(t *testing.T) {
	g, _ := build(t, circles)
	closed := dual.Close(g)
	for n, want := range []string{
		"rec r0.!1 r0+10.&2{a: rec r2.?3 r2+100.+4{l: r0+30, m: r2+200, n: end}, b: r0+20}",
		"rec r0.&2{a: rec r1.?3 r1+100.+4{l: rec r3.!31 r3+10.r0+30, m: r1+200, n: end}, b: rec r1.!21 r1+10.r0+20}",
		"rec r0.?3 r0+100.+4{l: rec r2.!31 r2+10.&32{a: r0+30, b: r2+20}, m: r0+200, n: end}",
		"rec r0.+4{l: rec r1.!31 r1+10.&32{a: rec r3.?33 r3+100.r0+30, b: r1+20}, m: rec r1.?203 r1+100.r0+200, n: end}",
		"end",
	} {
		wantText(t, g, ref(n, 0), want)
		wantText(t, closed, ref(n, 0), want)
	}
	wantText(t, g, ref(2, 7), "rec r0.?10 r0+100.+11{l: rec r2.!38 r2+10.&39{a: r0+30, b: r2+20}, m: r0+200, n: end}")
	wantText(t, g, ref(2, -3), "rec r0.?r0+100.+1{l: rec r2.!28 r2+10.&29{a: r0+30, b: r2+20}, m: r0+200, n: end}")
	wantText(t, closed, ref(5, 0), "rec r0.?1 (rec r1.!11 r1+10.&12{a: rec r3.?13 r3+100.+14{l: r1+30, m: r3+200, n: end}, b: r1+20})."+
		"+2{a: rec r2.!3 (rec r3.?103 r3+100.+104{l: rec r5.!131 r5+10.&132{a: r3+30, b: r5+20}, m: r3+200, n: end})."+
		"&4{l: r0+30, m: r2+200, n: end}, b: r0+20}")
	wantText(t, closed, ref(8, 1), "rec r0.&5{l: rec r1.?32 (rec r2.!42 r2+10.&43{a: rec r4.?44 r4+100.+45{l: r2+30, m: r4+200, n: end}, b: r2+20})."+
		"+33{a: !34 (rec r4.?134 r4+100.+135{l: rec r6.!162 r6+10.&163{a: r4+30, b: r6+20}, m: r4+200, n: end}).r0+30, b: r1+20}, "+
		"m: !204 (rec r2.?304 r2+100.+305{l: rec r4.!332 r4+10.&333{a: r2+30, b: r4+20}, m: r2+200, n: end}).r0+200, n: end}")
}

// P12.1: labels

// The rests follow their labels when these are sorted by bytes.
func TestLabels(t *testing.T) {
	wantCanonical(t, "+2 {b: !int.end, a: ?bool.end}", "+2{a: ?bool.end, b: !int.end}")
	wantCanonical(t, "&2 {b: !3 int.end, a: ?4 bool.end, c: end}", "&2{a: ?4 bool.end, b: !3 int.end, c: end}")
	wantCanonical(t, "+{c: !3 int.end, a: !1 int.end, b: !2 int.end}", "+{a: !1 int.end, b: !2 int.end, c: !3 int.end}")
	wantCanonical(t, "&{n2: !2 int.end, n10: !10 int.end, n: end, n1: !1 int.end}", "&{n: end, n1: !1 int.end, n10: !10 int.end, n2: !2 int.end}")
	wantCanonical(t, "+{a: !1 int.end, _: !2 int.end, Z: !3 int.end, A: !4 int.end, z: end}", "+{A: !4 int.end, Z: !3 int.end, _: !2 int.end, a: !1 int.end, z: end}")
	wantCanonical(t, "+{ab: end, aB: !1 int.end, a_: !2 int.end, a0: !3 int.end, a: !4 int.end}",
		"+{a: !4 int.end, a0: !3 int.end, aB: !1 int.end, a_: !2 int.end, ab: end}")
	wantCanonical(t, "+{b: &{d: !1 int.end, c: end}, a: &{d: end, c: !2 int.end}}", "+{a: &{c: !2 int.end, d: end}, b: &{c: end, d: !1 int.end}}")
	wantCanonical(t, "!(&{b: end, a: !int.end}).+{b: end, a: !int.end}", "!(&{a: !int.end, b: end}).+{a: !int.end, b: end}")
	wantCanonical(t, "rec t.&{c: rec u.!u.t+1, b: t+2, a: t+3}", "rec r0.&{a: r0+3, b: r0+2, c: rec r1.!r1.r0+1}")
	wantSame(t, "+{a: !int.end, b: end}", "+{a: end, b: !int.end}", "&{A: end, B: !int.end, a: ?int.end, b: !bool.end}")
}

// P12.1: recursion

func TestExample(t *testing.T) {
	wantCanonical(t, "!0 int.rec t.!1 int.t+1", "rec r0.!0 int.r0+1")
	wantCanonical(t, "rec t.!0 int.t+1", "rec r0.!0 int.r0+1")
}

func TestRecursion(t *testing.T) {
	wantCanonical(t, "rec t.!int.t", "rec r0.!int.r0")
	wantCanonical(t, "rec t.?3 bool.t+4", "rec r0.?3 bool.r0+4")
	wantCanonical(t, "rec t.+{a: t, b: end}", "rec r0.+{a: r0, b: end}")
	wantCanonical(t, "rec t.&1 {a: t, b: t+1}", "rec r0.&1{a: r0, b: r0+1}")
	wantCanonical(t, "rec t.!1000000 int.t+1000000", "rec r0.!1000000 int.r0+1000000")
	wantCanonical(t, "rec r5.!int.?int.r5+2", "rec r0.!int.?int.r0+2")
	wantCanonical(t, "rec r1.!int.rec r0.?int.&{a: r0, b: r1}", "rec r0.!int.rec r1.?int.&{a: r1, b: r0}")
}

// The normal tree does not show how a type was unfolded.
func TestUnfoldedTypes(t *testing.T) {
	for want, sources := range map[string][]string{
		"rec r0.!int.r0":   {"!int.rec t.!int.t", "!int.!int.!int.rec t.!int.t", "rec t.!int.!int.!int.t", "rec t.!int.rec u.!int.t", "rec t.!int.rec u.!int.u"},
		"rec r0.!int.r0+1": {"!int.!1 int.rec t.!2 int.t+1", "rec t.!int.!1 int.!2 int.t+3", "!int.rec t.!1 int.!2 int.t+2", "rec t.!int.rec u.!1 int.u+1"},
		"rec r0.!5 bool.?int.r0+2": {"!5 bool.?int.rec t.!7 bool.?2 int.t+2", "!5 bool.rec t.?int.!7 bool.t+2",
			"rec t.!5 bool.?int.!7 bool.?2 int.t+4"},
		"rec r0.!r0+1.r0+2": {"!(rec t.!1 t+1.t+2).rec t.!2 t+1.t+2", "rec t.!(rec u.!1 u+1.u+2).t+2", "rec t.!(!1 t+2.t+3).!2 t+3.t+4"},
		"rec r0.+{a: r0+1, b: end}": {"+{b: end, a: +1 {b: end, a: rec t.+2 {b: end, a: t+1}}}", "rec t.+{b: end, a: rec u.+1 {a: u+1, b: end}}",
			"rec t.+{b: end, a: +1 {a: t+2, b: end}}"},
		"rec r0.&{a: r0, b: r0}":                    {"rec t.&{b: &{a: t, b: t}, a: rec u.&{b: t, a: u}}", "rec t.&{a: t, b: rec t.&{a: t, b: t}}"},
		"rec r0.&{a: rec r1.+{b: r0, c: r1}}":       {"rec t.&{a: +{c: rec u.+{b: t, c: u}, b: t}}", "rec t.&{a: rec u.+{b: &{a: u}, c: u}}"},
		"!int.end":                                  {"rec t.!int.end", "!int.rec t.end", "rec t.rec u.rec t.!int.rec u.rec u.end"},
		"end":                                       {"rec t.end", "rec t.rec t.end"},
		"!(rec r1.?int.r1).end":                     {"!(?int.?int.rec t.?int.t).end"},
		"rec r0.!(rec r1.?int.r1).!(r0).r0":         {"rec t.!(?int.rec u.?int.u).!t.!(rec u.?int.?int.u).!(t).t"},
		"rec r0.!int.!3 int.!4 int.r0+10":           {"!int.!3 int.!4 int.!10 int.rec t.!13 int.!14 int.!20 int.t+10"},
		"!2 int.!1 int.rec r2.!0 int.r2":            {"!2 int.!1 int.!int.!int.rec t.!int.!int.t"},
		"!int.rec r1.!5 int.!6 int.r1+3":            {"!int.!5 int.!6 int.rec t.!8 int.!9 int.t+3"},
		"rec r0.!int.rec r1.?int.+{a: r0, b: r1+1}": {"rec t.!int.?int.+{b: rec u.?1 int.+1 {a: t+1, b: u+1}, a: !int.rec u.?int.+{a: t, b: u+1}}"},
	} {
		for _, s := range sources {
			wantCanonical(t, s, want)
		}
	}
}

// Several names, one that is bound twice, and one inside another.
func TestNames(t *testing.T) {
	wantCanonical(t, "rec t.rec u.!int.&{a: t+1, b: u+2}", "rec r0.!int.&{a: r0+1, b: r0+2}")
	wantCanonical(t, "rec t.rec u.rec v.!t.v", "rec r0.!r0.r0")
	wantCanonical(t, "rec t.!int.rec u.?bool.&{a: t+1, b: u+2, c: end}", "rec r0.!int.rec r1.?bool.&{a: r0+1, b: r1+2, c: end}")
	wantCanonical(t, "rec t.!int.rec t.?int.t", "!int.rec r1.?int.r1")
	wantCanonical(t, "rec t.+{a: rec t.?int.t, b: t}", "rec r0.+{a: rec r1.?int.r1, b: r0}")
	wantCanonical(t, "rec t.rec t.!int.t+1", "rec r0.!int.r0+1")
	wantCanonical(t, "rec t.!(rec t.?(rec t.+{a: t+1}).t+2).t+3", "rec r0.!(rec r1.?(rec r2.+{a: r2+1}).r1+2).r0+3")
	wantCanonical(t, "&{a: rec t.!int.t, b: rec t.!int.t, c: rec u.!bool.u}", "&{a: rec r1.!int.r1, b: rec r1.!int.r1, c: rec r1.!bool.r1}")
	wantCanonical(t, "rec t.+{a: rec u.+{b: rec v.+{c: t+1, d: u+2, e: v+3}}}", "rec r0.+{a: rec r1.+{b: rec r2.+{c: r0+1, d: r1+2, e: r2+3}}}")
}

func TestPayloads(t *testing.T) {
	wantCanonical(t, "rec t.!t.end", "rec r0.!r0.end")
	wantCanonical(t, "rec t.?t+1.t+2", "rec r0.?r0+1.r0+2")
	wantCanonical(t, "!(rec t.?int.t).end", "!(rec r1.?int.r1).end")
	wantCanonical(t, "rec t.?(!t.end).t", "rec r0.?(!r0.end).r0")
	wantCanonical(t, "!(!(rec t.!t+7.end).end).end", "!(!(rec r2.!r2+7.end).end).end")
	wantCanonical(t, "?(rec t.?t.end).end", "rec r0.?r0.end")
	wantCanonical(t, "?(?(rec t.?t.end).end).end", "rec r0.?r0.end")
	wantCanonical(t, "?(rec t.?1 t+1.end).end", "rec r0.?r0+1.end")
	wantCanonical(t, "?(?1 (rec t.?3 t+2.end).end).end", "?(rec r1.?1 r1+2.end).end")
	wantCanonical(t, "rec t.!(rec u.&{a: t, b: u}).t", "rec r0.!(rec r1.&{a: r0, b: r1}).r0")
}

// A TVar needs the same infinite tree, raised by one number; what is only alike, or has another Kind, has a node of its own.
func TestReferencesThatAreNotEqual(t *testing.T) {
	wantSame(t, "!int.!1 int.end", "!int.!int.!int.end", "!int.!int.rec r2.?int.r2", "+{a: +{a: end}}", "&{a: &{a: end, b: end}}",
		"!int.!bool.rec r2.!int.?bool.r2", "rec r0.!int.!1 int.r0+3", "rec r0.!int.!2 int.!3 int.r0+3", "rec r0.!int.!bool.r0",
		"rec r0.!int.!2 int.!3 int.!5 int.r0+7", "rec r0.+{a: +{a: r0, b: r0}}", "rec r0.+{a: &{a: r0}}", "rec r0.+{a: +{b: r0}}",
		"rec r0.!(?int.r0).!(?bool.r0).r0", "rec r0.!3 int.!2 int.!1 int.r0", "rec r0.!int.!int.r0+1",
		"!int.rec r1.!1 int.r1", "!int.rec r1.!5 int.r1+1", "+{a: !int.end, b: rec r1.!int.r1}", "rec r0.&{a: rec r1.&{a: r1+1, b: r0}, b: r0}",
		"!(!end.end).!end.end", "!end.!int.!end.!int.end", "rec r0.?(?r0+1.end).end", "rec r0.?(?r0+3.end).end")
	wantCanonical(t, "rec t.?(?1 t+2.end).end", "rec r0.?r0+1.end")
	wantSame(t, "+{ab: rec r1.+{a: r1, bc: end}, c: end}", "+{a: rec r1.+11{a1: r1+1}}", "+{a: rec r1.+1{a1: r1+1}}", "!(rec r1.!11 int.r1).end",
		"rec r0.+{a: +{a: r0, b: end, c: !int.end}, b: !int.end, c: end}", "rec r0.&{a: r0, b: &{a: end, b: r0, c: r0}, c: end}",
		"rec r0.&{a: &{a: r0, b: r0+1, c: r0+2, d: r0+3}, b: r0+1, c: r0+3, d: r0+2}")
	wantCanonical(t, "rec t.&{a: rec u.&{a: u+1, b: t+1}, b: t}", "rec r0.&{a: rec r1.&{a: r1+1, b: r0+1}, b: r0}")
	wantCanonical(t, "rec t.&{a: rec u.&1 {a: u+1, b: t+1}, b: t}", "rec r0.&{a: r0+1, b: r0}")
}

// Equal references that are not on the path to each other do not matter.
func TestEqualReferencesBesides(t *testing.T) {
	wantSame(t, "&{a: !int.end, b: !int.end}", "!(!int.end).?(!int.end).!int.end", "?(?int.end).+{a: ?int.end, b: ?1 int.end}",
		"!(rec r1.?int.r1).rec r1.?int.r1", "&{a: rec r1.!int.r1, b: !int.&{a: rec r3.!int.r3}}")
	wantCanonical(t, "rec t.!(?int.t).?int.t", "rec r0.!(?int.r0).?int.r0")
}

// What is no action is never a TVar, and needs no other reference of its kind on the path.
func TestNodesThatAreNoActions(t *testing.T) {
	wantSame(t, "!end.!end.end", "!int.!int.end", "?bool.?bool.end", "!end.?end.+{a: end, b: &{a: end, b: end}}", "rec r0.!end.+{a: r0, b: end}",
		"rec r0.!int.?int.!bool.&{a: end, b: r0+1, c: !int.end}", "!(!end.end).end", "rec r0.!(!1 r0.end).end")
	wantCanonical(t, "rec t.!(rec u.end).&{a: t, b: rec v.end}", "rec r0.!end.&{a: r0, b: end}")
}

// The TVar names the first reference on the path that is equal, also if there are more that are equal to each other.
func TestFirstReferenceOnThePath(t *testing.T) {
	g, _ := build(t, "rec t.!2 int.!3 int.!4 int.!5 int.t+4", "rec t.!int.?int.!1 int.?1 int.!2 int.?2 int.t+3", "rec t.?(?1 (?2 t+3.end).end).end")
	for n, want := range map[int]string{
		0: "rec r0.!2 int.r0+1", 2: "rec r0.!3 int.r0+1", 4: "rec r0.!4 int.r0+1", 6: "rec r0.!5 int.r0+1",
		8: "rec r0.!int.?int.r0+1", 10: "rec r0.?int.!1 int.r0+1", 12: "rec r0.!1 int.?1 int.r0+1", 18: "rec r0.?2 int.!3 int.r0+1",
		20: "rec r0.?r0+1.end", 21: "rec r0.?1 r0+1.end", 22: "rec r0.?2 r0+1.end",
	} {
		wantText(t, g, ref(n, 0), want)
	}
	wantCanonical(t, "&{a: !int.!1 int.!2 int.rec t.!3 int.!4 int.t+2}", "&{a: rec r1.!int.r1+1}")
	wantCanonical(t, "rec t.!int.?bool.!1 int.?1 bool.+{a: t+2, b: rec u.?4 bool.!5 int.u+1}",
		"rec r0.!int.?bool.!1 int.?1 bool.+{a: r0+2, b: rec r5.?4 bool.!5 int.r5+1}")
}

// A TRec is only there if a TVar within it refers to it, not one beside it.
func TestTRecsThatAreNeeded(t *testing.T) {
	wantCanonical(t, "&{a: rec t.!int.t, b: !bool.end}", "&{a: rec r1.!int.r1, b: !bool.end}")
	wantCanonical(t, "&{b: rec t.!int.t, a: !bool.end}", "&{a: !bool.end, b: rec r1.!int.r1}")
	wantCanonical(t, "&{a: rec t.!int.t, b: !bool.?int.end, c: rec u.?int.!int.u}", "&{a: rec r1.!int.r1, b: !bool.?int.end, c: rec r1.?int.!int.r1}")
	wantCanonical(t, "rec t.!int.rec u.?int.rec v.!bool.u", "!int.rec r1.?int.!bool.r1")
	wantCanonical(t, "rec t.!(rec u.?u.end).?int.rec v.!bool.t", "rec r0.!(rec r1.?r1.end).?int.!bool.r0")
	wantCanonical(t, "!(rec t.!bool.t).!(!bool.end).!(!bool.!bool.end).end", "!(rec r1.!bool.r1).!(!bool.end).!(!bool.!bool.end).end")
	wantCanonical(t, "rec t.&{a: rec u.!int.&{x: t, y: u}, b: !int.&{x: t, y: end}, c: rec u.!int.&{x: u, y: t}}",
		"rec r0.&{a: rec r1.!int.&{x: r0, y: r1}, b: !int.&{x: r0, y: end}, c: rec r1.!int.&{x: r1, y: r0}}")
}

// The index in a Name counts all references on the path.
func TestIndices(t *testing.T) {
	for n := range 98 {
		prefix := strings.Repeat("!int.", n)
		wantCanonical(t, prefix+"rec t.?int.t", fmt.Sprintf("%srec r%d.?int.r%d", prefix, n, n))
	}
	for n := range 98 {
		before, after := strings.Repeat("!(", n), strings.Repeat(").end", n)
		wantCanonical(t, before+"rec t.?1 bool.t+5"+after, fmt.Sprintf("%srec r%d.?1 bool.r%d+5%s", before, n, n, after))
	}
	wantCanonical(t, "+{a: &{b: !int.rec t.?int.+{c: t, d: end}}}", "+{a: &{b: !int.rec r3.?int.+{c: r3, d: end}}}")
	wantCanonical(t, "rec t.+{a: &{b: !int.+{c: t+3, d: end}}}", "rec r0.+{a: &{b: !int.+{c: r0+3, d: end}}}")
}

// The Shift is by how much the reference on the path is raised, from the one or the other node on.
func TestShiftsOfVariables(t *testing.T) {
	g, _ := build(t, "rec t.!5 int.?7 int.!int.t+9")
	for n, want := range map[int]string{
		0: "rec r0.!5 int.?7 int.!int.r0+9", 2: "rec r0.?7 int.!int.!14 int.r0+9", 4: "rec r0.!int.!14 int.?16 int.r0+9",
	} {
		wantText(t, g, ref(n, 0), want)
	}
	wantText(t, g, ref(4, 100), "rec r0.!100 int.!114 int.?116 int.r0+9")
	wantText(t, g, ref(0, 999993), "rec r0.!999998 int.?1000000 int.!999993 int.r0+9")
	// The tree has higher numbers than a right type can have.
	g, _ = build(t, "rec t.!1000000 int.?0 bool.t+1000000")
	wantText(t, g, ref(2, 0), "rec r0.?bool.!2000000 int.r0+1000000")
	wantText(t, g, ref(2, 1000000), "rec r0.?1000000 bool.!3000000 int.r0+1000000")
	g, _ = build(t, "rec t.&{a: !int.rec u.?int.&{a: t+1000000, b: u+1000000}, b: t+1000000}")
	wantText(t, g, ref(3, 0), "rec r0.?int.&{a: rec r2.&1000000{a: !1000000 int.r0+1000000, b: r2+1000000}, b: r0+1000000}")
}

// P12.4

// equalGroups has types of which those of one list are equal, and those of different lists are not.
var equalGroups = [][]string{
	{"int"}, {"bool"}, {"end", "rec t.end"},
	{"rec t.!0 int.t+1", "!0 int.rec t.!1 int.t+1", "rec t.!0 int.!1 int.t+2"},
	{"rec t.!0 int.t", "rec t.!0 int.!0 int.!0 int.t", "!0 int.rec t.!0 int.!0 int.t"},
	{"rec t.!1 int.t+1"}, {"rec t.?0 int.t+1"}, {"rec t.!0 bool.t"}, {"!0 int.end"}, {"!1 int.end"},
	{circles}, {everyKind, "!1 int.?2 bool.+3 {l: &4 {x: end, y: end}, m: end}"},
	{"rec t.&{a: t, b: end}", "rec t.&{b: end, a: &{a: t, b: end}}", "&{a: rec t.&{b: end, a: t}, b: end}"},
	{"rec t.+{a: t, b: end}", "rec t.+{b: end, a: t}"}, {"rec t.+{a: end, b: t}"}, {"rec t.+{a: t, c: end}"}, {"rec t.+{a: t}"},
	{"rec t.!t.t", "rec t.!(!t.t).!t.t"}, {"rec t.!t+1.t"}, {"rec t.!t.t+1"}, {"rec t.!(rec u.?u.u).t"},
}

func TestSameTreeExactlyIfEqual(t *testing.T) {
	var l []string
	var groups []int
	for i, group := range equalGroups {
		for _, s := range group {
			l, groups = append(l, s), append(groups, i)
		}
	}
	g, refs := build(t, l...)
	closed := dual.Close(g)
	for i, a := range types(t, l...) {
		for j, b := range types(t, l...) {
			want := groups[i] == groups[j]
			same := typetree.Same
			if same(readback.Canonical(a), readback.Canonical(b)) != want || same(readback.Normal(g, refs[i]), readback.Normal(g, refs[j])) != want ||
				same(readback.Normal(closed, dual.Of(closed, refs[i])), readback.Normal(closed, dual.Of(closed, refs[j]))) != want {
				t.Errorf("%s and %s: want the same tree: %v", l[i], l[j], want)
			}
		}
	}
}

// A reference to a raised node is equal to another one, and has its tree.
func TestSameTreeOfRaisedReferences(t *testing.T) {
	g, _ := build(t, "rec t.!int.!1 int.t+2", "rec t.!3 int.t+1", "rec t.!3 int.t")
	wantText(t, g, ref(0, 3), "rec r0.!3 int.r0+1")
	wantText(t, g, ref(2, 2), "rec r0.!3 int.r0+1")
	wantText(t, g, ref(4, 0), "rec r0.!3 int.r0+1")
	wantText(t, g, ref(4, -3), "rec r0.!int.r0+1")
	wantText(t, g, ref(6, 0), "rec r0.!3 int.r0")
}
