package subtype_test

import (
	"fmt"
	"math"
	"strings"
	"testing"

	"duologue/api"
	"duologue/dual"
	"duologue/equal"
	"duologue/graph"
	"duologue/head"
	"duologue/parse"
	"duologue/subtype"
	"duologue/typetree"
)

// types parses the texts of right types.
func types(t *testing.T, sources ...string) []api.Type {
	t.Helper()
	var l []api.Type
	for _, s := range sources {
		a, fault := parse.Type(s)
		if fault.Err != api.OK || typetree.Right(a) != api.OK {
			t.Fatalf("%s: %v, and error %d", s, fault, typetree.Right(a))
		}
		l = append(l, a)
	}
	return l
}

// build returns the graph of the texts of right types, and their references.
func build(t *testing.T, sources ...string) (graph.Graph, []graph.Ref) {
	t.Helper()
	return graph.Build(types(t, sources...))
}

func ref(node, shift int) graph.Ref {
	return graph.Ref{Node: node, Shift: shift}
}

// raised returns a reference with a number added to its Shift.
func raised(r graph.Ref, k int) graph.Ref {
	return ref(r.Node, r.Shift+k)
}

// everyKind has the nodes 0 !1, 1 int, 2 ?2, 3 bool, 4 +3, 5 end, 6 &4, 7 end and 8 end.
const everyKind = "!1 int.?2 bool.+3 {m: end, l: &4 {y: end, x: end}}"

// circles has the nodes 0 !1, 1 &2, 2 ?3 and 3 +4, and 4 end; most of their references Next have a Shift.
const circles = "rec t.!1 (t+10).&2 {a: t+20, b: rec u.?3 (u+100).+4 {l: t+30, m: u+200, n: end}}"

// shifts are the numbers by which the tests raise references.
var shifts = []int{0, 1, -1, 7, -50, 1000000, -1000000, 1 << 40, math.MinInt / 4}

// verdict tells whether a reference a is a subtype of a reference b, and b one of a.
type verdict struct{ sub, super bool }

var (
	same    = verdict{true, true}
	below   = verdict{sub: true}
	above   = verdict{super: true}
	neither = verdict{}
)

// back returns the verdict for the references in the other order.
func (v verdict) back() verdict {
	return verdict{v.super, v.sub}
}

// wantCalls checks Sub and Same for two references in both orders.
func wantCalls(t *testing.T, g graph.Graph, a, b graph.Ref, want verdict) {
	t.Helper()
	if got := subtype.Sub(g, a, b); got != want.sub {
		t.Errorf("Sub of %v and %v: got %v, want %v", a, b, got, want.sub)
	}
	if got := subtype.Sub(g, b, a); got != want.super {
		t.Errorf("Sub of %v and %v: got %v, want %v", b, a, got, want.super)
	}
	both := want == same
	if got := subtype.Same(g, a, b); got != both {
		t.Errorf("Same of %v and %v: got %v, want %v", a, b, got, both)
	}
	if got := subtype.Same(g, b, a); got != both {
		t.Errorf("Same of %v and %v: got %v, want %v", b, a, got, both)
	}
}

// isAction reports whether a reference has a priority.
func isAction(g graph.Graph, r graph.Ref) bool {
	return g.Nodes[r.Node].Kind >= api.TSend
}

// isSession reports whether a reference is to a session type.
func isSession(g graph.Graph, r graph.Ref) bool {
	return g.Nodes[r.Node].Kind >= api.TEnd
}

// wantVerdict checks Sub and Same for two references as they are, and raised by the same number; and, if both have the
// same priority or none, with one of them raised.
func wantVerdict(t *testing.T, g graph.Graph, a, b graph.Ref, want verdict) {
	t.Helper()
	prioA, _ := head.Prio(g, a)
	prioB, _ := head.Prio(g, b)
	for _, k := range shifts {
		wantCalls(t, g, raised(a, k), raised(b, k), want)
		if prioA != prioB {
			continue
		}
		odd := want
		if k != 0 && isAction(g, a) {
			odd = neither
		}
		wantCalls(t, g, raised(a, k), b, odd)
		wantCalls(t, g, a, raised(b, k), odd)
	}
}

// wantFits checks Fits for two references to session types of a closed graph, of which the first one is to a type that has
// the verdict to the dual of that of the second one.
func wantFits(t *testing.T, g graph.Graph, a, b graph.Ref, want verdict) {
	t.Helper()
	for _, x := range []struct {
		a, b graph.Ref
		want bool
	}{{a, b, want.sub}, {b, a, want.sub}, {dual.Of(g, a), dual.Of(g, b), want.super}, {dual.Of(g, b), dual.Of(g, a), want.super}} {
		for _, k := range shifts {
			if got := subtype.Fits(g, raised(x.a, k), raised(x.b, k)); got != x.want {
				t.Errorf("Fits of %v and %v, raised by %d: got %v, want %v", x.a, x.b, k, got, x.want)
			}
			if got := subtype.Fits(g, raised(x.a, k), x.b); k != 0 && x.want && isAction(g, a) && got {
				t.Errorf("Fits of %v, raised by %d, and %v: got true", x.a, k, x.b)
			}
		}
	}
}

// wantTypes checks the verdict for the references of two types in the graph of both, and in its closed graph for them and for their duals.
func wantTypes(t *testing.T, a, b string, want verdict) {
	t.Helper()
	g, refs := build(t, a, b)
	wantVerdict(t, g, refs[0], refs[1], want)
	g = dual.Close(g)
	wantVerdict(t, g, refs[0], refs[1], want)
	if isSession(g, refs[0]) && isSession(g, refs[1]) {
		wantVerdict(t, g, dual.Of(g, refs[0]), dual.Of(g, refs[1]), want.back())
		wantFits(t, g, refs[0], dual.Of(g, refs[1]), want)
	}
	if t.Failed() {
		t.Fatalf("for %s and %s", a, b)
	}
}

// wantAround checks that types in which two types are payloads or rests have the verdict of these, or that of the other order.
func wantAround(t *testing.T, a, b string, want verdict) {
	t.Helper()
	wantTypes(t, a, b, want)
	for _, x := range []struct {
		around string
		want   verdict
	}{
		{"?1 (_).end", want}, {"?1 int._", want}, {"!1 int._", want}, {"+1 {a: _}", want}, {"&1 {a: _}", want},
		{"!1 (_).end", want.back()}, {"?1 (_).?2 int._", want}, {"+1 {a: end, b: _}", want}, {"&1 {b: _, a: end}", want},
		{"!1 (?2 (_).end).end", want.back()}, {"?1 (!2 (_).end).end", want.back()}, {"!1 (!2 (_).end).end", want}, {"?1 (?2 (_).end).end", want},
		{"!1 (!2 (!3 (_).end).end).end", want.back()}, {"?1 (!2 (?3 (!4 (_).end).end).end).end", want},
		{"!1 int.!2 (+3 {a: end, b: &4 {c: _}}).end", want.back()}, {"rec t.!1 (_).t", want.back()}, {"rec t.?1 (_).t+1", want},
		{"rec t.&{a: t, b: _}", want}, {"rec t.?1 (?2 (_).t).t", want},
	} {
		wantTypes(t, strings.ReplaceAll(x.around, "_", a), strings.ReplaceAll(x.around, "_", b), x.want)
	}
	both := neither
	if want == same {
		both = same
	}
	for _, around := range []string{"!1 (_).!2 int._", "!1 (_).?2 (_).end", "+1 {a: _, b: !2 (_).end}", "!1 (?2 (_).!3 (_).end).end", "rec t.!1 (!2 (_).t).t"} {
		wantTypes(t, strings.ReplaceAll(around, "_", a), strings.ReplaceAll(around, "_", b), both)
	}
}

// P11.1

func TestEveryKind(t *testing.T) {
	kinds := []string{"int", "bool", "end", "!int.end", "?int.end", "+{a: end}", "&{a: end}"}
	for i, a := range kinds {
		for j, b := range kinds {
			want := neither
			if i == j {
				want = same
			}
			wantTypes(t, a, b, want)
		}
	}
}

func TestReferenceAndItself(t *testing.T) {
	for _, source := range []string{"int", "bool", "end", everyKind, circles, "rec t.!(t).t", "rec t.+{a: t+1, b: t}"} {
		g, _ := build(t, source)
		for _, g := range []graph.Graph{g, dual.Close(g)} {
			for n := range g.Nodes {
				wantVerdict(t, g, ref(n, 0), ref(n, 0), same)
				wantVerdict(t, g, ref(n, 3), ref(n, 3), same)
			}
		}
	}
}

// Types without an action are subtypes of each other whatever their Shift is.
func TestTypesWithoutAction(t *testing.T) {
	g, refs := build(t, "int", "bool", "end", "rec t.end")
	for i, a := range refs {
		for j, b := range refs {
			want := neither
			if i == j || i+j == 5 {
				want = same
			}
			for _, k := range shifts {
				wantCalls(t, g, a, raised(b, k), want)
				wantCalls(t, g, raised(a, k), raised(b, -k), want)
			}
		}
	}
}

// One of all nodes is different: its Kind, its priority, or its labels.
func TestOneNodeThatIsDifferent(t *testing.T) {
	const first = "!1 int.?2 bool.+3 {m: end, l: &4 {y: !5 (?6 int.end).end, x: end}}"
	wantTypes(t, first, first, same)
	for _, second := range []string{
		"?1 int.?2 bool.+3 {m: end, l: &4 {y: !5 (?6 int.end).end, x: end}}",
		"!1 bool.?2 bool.+3 {m: end, l: &4 {y: !5 (?6 int.end).end, x: end}}",
		"!1 end.?2 bool.+3 {m: end, l: &4 {y: !5 (?6 int.end).end, x: end}}",
		"!1 int.!2 bool.+3 {m: end, l: &4 {y: !5 (?6 int.end).end, x: end}}",
		"!1 int.?2 int.+3 {m: end, l: &4 {y: !5 (?6 int.end).end, x: end}}",
		"!1 int.?2 bool.&3 {m: end, l: &4 {y: !5 (?6 int.end).end, x: end}}",
		"!1 int.?2 bool.+3 {m: end, l: +4 {y: !5 (?6 int.end).end, x: end}}",
		"!1 int.?2 bool.+3 {m: end, l: &4 {y: ?5 (?6 int.end).end, x: end}}",
		"!1 int.?2 bool.+3 {m: end, l: &4 {y: !5 (!6 int.end).end, x: end}}",
		"!1 int.?2 bool.+3 {m: end, l: &4 {y: !5 (?6 bool.end).end, x: end}}",
		"!1 int.?2 bool.+3 {m: end, l: &4 {y: !5 (?6 int.?7 int.end).end, x: end}}",
		"!1 int.?2 bool.+3 {m: end, l: &4 {y: !5 (?6 int.end).!7 int.end, x: end}}",
		"!1 int.?2 bool.+3 {m: ?int.end, l: &4 {y: !5 (?6 int.end).end, x: end}}",
		"!1 int.?2 bool.+3 {k: end, l: &4 {y: !5 (?6 int.end).end, x: end}}",
		"!1 int.?2 bool.+3 {m: end, l: &4 {y: !5 (?6 int.end).end, w: end}}",
		"!0 int.?2 bool.+3 {m: end, l: &4 {y: !5 (?6 int.end).end, x: end}}",
		"!1 int.?3 bool.+3 {m: end, l: &4 {y: !5 (?6 int.end).end, x: end}}",
		"!1 int.?2 bool.+1000000 {m: end, l: &4 {y: !5 (?6 int.end).end, x: end}}",
		"!1 int.?2 bool.+3 {m: end, l: &5 {y: !5 (?6 int.end).end, x: end}}",
		"!1 int.?2 bool.+3 {m: end, l: &4 {y: !4 (?6 int.end).end, x: end}}",
		"!1 int.?2 bool.+3 {m: end, l: &4 {y: !5 (?5 int.end).end, x: end}}",
		"!1 int.end", "int", "end",
	} {
		wantTypes(t, first, second, neither)
	}
	for second, want := range map[string]verdict{
		"!1 int.?2 bool.+3 {m: end, l: &4 {y: !5 (?6 int.end).end}}":                         above,
		"!1 int.?2 bool.+3 {m: end, l: &4 {y: !5 (?6 int.end).end, x: end, z: end}}":         below,
		"!1 int.?2 bool.+3 {l: &4 {y: !5 (?6 int.end).end, x: end}}":                         below,
		"!1 int.?2 bool.+3 {m: end, l: &4 {y: !5 (?6 int.end).end, x: end}, z: end}":         above,
		"!1 int.?2 bool.+3 {l: &4 {y: !5 (?6 int.end).end, x: end, z: end}}":                 below,
		"!1 int.?2 bool.+3 {m: end, l: &4 {y: !5 (?6 int.end).end, x: end, z: end}, k: end}": neither,
		"!1 int.?2 bool.+3 {l: &4 {y: !5 (?6 int.end).end}}":                                 neither,
	} {
		wantTypes(t, first, second, want)
	}
}

// The payload of the supertype is the subtype for TSend, and the other way round for TRecv.
func TestPayloads(t *testing.T) {
	wantTypes(t, "!(+{a: end}).end", "!(+{a: end, b: end}).end", below)
	wantTypes(t, "!(&{a: end, b: end}).end", "!(&{a: end}).end", below)
	wantTypes(t, "?(+{a: end, b: end}).end", "?(+{a: end}).end", below)
	wantTypes(t, "?(&{a: end}).end", "?(&{a: end, b: end}).end", below)
	wantTypes(t, "!(!(+{a: end, b: end}).end).end", "!(!(+{a: end}).end).end", below)
	wantTypes(t, "!(?(+{a: end}).end).end", "!(?(+{a: end, b: end}).end).end", below)
	wantTypes(t, "?(!(+{a: end}).end).end", "?(!(+{a: end, b: end}).end).end", below)
	wantTypes(t, "?(?(+{a: end, b: end}).end).end", "?(?(+{a: end}).end).end", below)
	wantTypes(t, "!(!(!(&{a: end, b: end}).end).end).end", "!(!(!(&{a: end}).end).end).end", below)
	wantTypes(t, "!int.end", "!bool.end", neither)
	wantTypes(t, "?end.end", "?int.end", neither)
	wantTypes(t, "!(!1 int.end).end", "!(!2 int.end).end", neither)
	wantTypes(t, "!(+{a: end}).end", "!(+{b: end}).end", neither)
}

func TestPayloadsAndRests(t *testing.T) {
	const few, many = "+2 {a: end}", "+2 {a: end, b: end}"
	send := func(payload, rest string) string { return "!1 (" + payload + ")." + rest }
	receive := func(payload, rest string) string { return "?1 (" + payload + ")." + rest }
	wantTypes(t, send(few, many), send(many, few), below)
	wantTypes(t, send(few, many), send(many, many), below)
	wantTypes(t, send(few, many), send(few, few), below)
	wantTypes(t, send(few, many), send(few, many), same)
	wantTypes(t, send(few, few), send(many, many), neither)
	wantTypes(t, receive(many, many), receive(few, few), below)
	wantTypes(t, receive(many, many), receive(few, many), below)
	wantTypes(t, receive(many, many), receive(many, few), below)
	wantTypes(t, receive(few, many), receive(many, few), neither)
	wantTypes(t, send(few, many), receive(few, many), neither)
	wantTypes(t, send(few, "end"), send("end", few), neither)
	// The order is exchanged by the payload of a payload again, but not for the rest beside it.
	wantTypes(t, send(send(many, few), "end"), send(send(few, many), "end"), below)
	wantTypes(t, send(send(many, many), "end"), send(send(few, few), "end"), neither)
	wantTypes(t, send(receive(few, few), "end"), send(receive(many, many), "end"), below)
	wantTypes(t, receive(send(few, many), "end"), receive(send(many, few), "end"), below)
	wantTypes(t, receive(send(few, few), "end"), receive(send(many, many), "end"), neither)
}

func TestLabels(t *testing.T) {
	for _, x := range []struct {
		a, b string
		want verdict
	}{
		{"{a: end}", "{a: end}", same},
		{"{a: end, b: end}", "{b: end, a: end}", same},
		{"{a: end, b: end}", "{a: end}", below},
		{"{a: end, b: end}", "{b: end}", below},
		{"{a: end, b: end, c: end}", "{c: end, a: end}", below},
		{"{c: end, b: end, a: end, d: end}", "{d: end, a: end}", below},
		{"{a: end, b: end, c: end}", "{b: end, d: end}", neither},
		{"{a: end, b: end}", "{a: end, c: end}", neither},
		{"{a: end, b: end}", "{c: end, b: end, a: end}", above},
		{"{a: end}", "{b: end}", neither},
		{"{a: end}", "{A: end}", neither},
		{"{a: end, b: end}", "{c: end}", neither},
		{"{ab: end, c: end}", "{a: end, bc: end}", neither},
		{"{n: end, n10: ?int.end, n2: !int.end}", "{n2: !int.end, n10: ?int.end, n: end}", same},
		{"{n: end, n10: ?int.end, n2: !int.end}", "{n2: !int.end, n10: ?int.end}", below},
		{"{n: end, n10: ?int.end, n2: !int.end}", "{n2: !int.end, n: end}", below},
		{"{n: end, n10: ?int.end, n2: !int.end}", "{n10: !int.end, n: end}", neither},
		{"{n: end, n10: ?int.end, n2: !int.end}", "{n10: ?int.end, n: ?int.end}", neither},
		{"{a: end, b: !int.end}", "{a: !int.end}", neither},
		{"{a: end, b: !int.end}", "{b: end, a: !int.end}", neither},
		// What is behind a label that only one of them has does not matter.
		{"{a: !int.!bool.?int.end, b: end}", "{b: end}", below},
		{"{b: end, a: !0 (?1 int.end).end}", "{b: end}", below},
		{"{a: !int.end, b: end}", "{b: !int.end}", neither},
	} {
		wantTypes(t, "+"+x.a, "+"+x.b, x.want)
		wantTypes(t, "&"+x.a, "&"+x.b, x.want.back())
		wantTypes(t, "+7 "+x.a, "+7 "+x.b, x.want)
		wantTypes(t, "+7 "+x.a, "+8 "+x.b, neither)
		wantTypes(t, "&7 "+x.a, "&8 "+x.b, neither)
		wantTypes(t, "+"+x.a, "&"+x.b, neither)
	}
}

func TestRestsOfLabels(t *testing.T) {
	const few, many = "+2 {a: end}", "+2 {a: end, b: end}"
	for _, x := range []struct {
		a, b            string
		choices, offers verdict
	}{
		{"{p: few}", "{p: many}", above, above},
		{"{p: many, q: end}", "{p: few}", below, neither},
		{"{p: few, q: end}", "{p: many}", neither, above},
		{"{p: many, q: many}", "{q: few, p: many}", below, below},
		{"{p: many, q: few}", "{q: many, p: few}", neither, neither},
		{"{p: many, q: few}", "{q: many, p: many}", above, above},
		{"{p: many, q: few, r: end}", "{r: end, p: few, q: few}", below, below},
		{"{p: many, q: few, r: end}", "{p: few, q: few}", below, neither},
		{"{p: few, q: few, r: end}", "{p: many, q: few}", neither, above},
		{"{p: many, q: end, r: few}", "{r: many, p: many}", neither, above},
	} {
		text := strings.NewReplacer("few", few, "many", many)
		wantTypes(t, text.Replace("+1 "+x.a), text.Replace("+1 "+x.b), x.choices)
		wantTypes(t, text.Replace("&1 "+x.a), text.Replace("&1 "+x.b), x.offers)
	}
	wantTypes(t, "+{a: &{b: end}, c: end}", "+{a: &{b: end, d: end}}", below)
	wantTypes(t, "+{a: &{b: end, d: end}, c: end}", "+{a: &{b: end}}", neither)
	wantTypes(t, "+{a: &{b: end, d: end}}", "+{a: &{b: end}}", above)
	wantTypes(t, "&{a: +{b: end, d: end}}", "&{a: +{b: end}, c: end}", below)
	wantTypes(t, "&{a: +{b: end}}", "&{a: +{b: end, d: end}, c: end}", neither)
}

func TestTypesWithinTypes(t *testing.T) {
	wantAround(t, "end", "end", same)
	wantAround(t, "+5 {a: end, b: end}", "+5 {a: end}", below)
	wantAround(t, "&5 {a: end, b: end}", "&5 {a: end}", above)
	wantAround(t, "!5 (+{a: end, b: end}).end", "!5 (+{a: end}).end", above)
	wantAround(t, "?5 (+{a: end, b: end}).end", "?5 (+{a: end}).end", below)
	wantAround(t, "+5 {a: end, b: end}", "+6 {a: end}", neither)
	wantAround(t, "+5 {a: end, b: end}", "+5 {a: end, c: end}", neither)
	wantAround(t, "+5 {a: end, b: end}", "+5 {b: end, a: end}", same)
	wantAround(t, "rec u.+5 {a: u+1, b: end}", "rec u.+5 {a: +6 {a: u+2, b: end}}", below)
	wantAround(t, "!5 int.end", "?5 int.end", neither)
	wantAround(t, "end", "!5 int.end", neither)
}

// The sum of the priority and the Shift counts.
func TestShifts(t *testing.T) {
	g, refs := build(t, "+1 {a: ?2 int.end, b: end}", "+4 {a: ?5 int.end}", "int", "end", "+4 {a: ?7 int.end}")
	a, b, number, end, c := refs[0], refs[1], refs[2], refs[3], refs[4]
	wantCalls(t, g, raised(a, 3), b, below)
	wantCalls(t, g, raised(a, 2), b, neither)
	wantCalls(t, g, raised(a, 4), b, neither)
	wantCalls(t, g, raised(a, 10), raised(b, 7), below)
	wantCalls(t, g, a, raised(b, -3), below)
	wantCalls(t, g, a, b, neither)
	wantCalls(t, g, a, raised(a, 1), neither)
	wantCalls(t, g, raised(a, 3), c, neither)
	wantCalls(t, g, raised(number, 5), number, same)
	wantCalls(t, g, raised(end, 5), raised(end, -5), same)
	wantCalls(t, g, raised(end, 5), raised(number, 5), neither)
	wantTypes(t, "!0 int.rec t.!1 int.t", "!0 int.rec t.!0 int.t", neither)
	wantTypes(t, "rec t.!0 int.t+1", "rec t.!0 int.t+2", neither)
	wantTypes(t, "rec t.+0 {a: t+1, b: t+2}", "rec t.+0 {a: t+1}", below)
	wantTypes(t, "rec t.+0 {a: t+1, b: t+2}", "rec t.+0 {a: t+2}", neither)
	wantTypes(t, "rec t.+0 {a: t+1, b: t+2}", "rec t.+0 {b: t+2}", below)
	wantTypes(t, "rec t.+0 {a: t+1, b: t+2}", "rec t.+0 {a: +1 {b: t+3}}", below)
	wantTypes(t, "rec t.+0 {a: t+1, b: t+2}", "rec t.+0 {a: +1 {b: t+2}}", neither)
	wantTypes(t, "rec t.!0 (t+1).t+2", "rec t.!0 (rec u.!1 (u+1).u+2).t+2", same)
	wantTypes(t, "rec t.?0 (t+1).&{a: end}", "rec t.?0 (t+1).&{a: end, b: end}", below)
	wantTypes(t, "rec t.?0 (t+1).&{a: end}", "rec t.?0 (t+2).&{a: end, b: end}", neither)
}

func TestExamples(t *testing.T) {
	wantTypes(t, "+{a: end, b: end}", "+{a: end}", below)
	wantTypes(t, "&{a: end}", "&{a: end, b: end}", below)
}

// Types that differ as texts, and have the same infinite tree.
func TestTypesThatUnfoldToTheSame(t *testing.T) {
	for _, l := range [][]string{
		{"rec t.!int.t", "!int.rec t.!int.t", "rec u.!int.!int.u", "rec t.!int.rec u.!int.t", "!int.!int.!int.rec t.!int.!int.!int.t", "rec t.rec u.!int.t"},
		{"rec t.!0 int.t+1", "!0 int.rec t.!1 int.t+1", "!0 int.!1 int.rec t.!2 int.t+1", "rec t.!0 int.!1 int.!2 int.t+3", "!0 int.rec t.!1 int.!2 int.t+2"},
		{"rec t.?7 (t+5).t+6", "?7 (rec t.?12 (t+5).t+6).rec t.?13 (t+5).t+6", "rec t.?7 (?12 (t+10).t+11).t+6", "rec t.?7 (t+5).?13 (t+11).t+12"},
		{"rec t.+{a: t, b: end}", "rec t.+{b: end, a: +{a: t, b: end}}", "+{a: rec t.+{b: end, a: t}, b: end}"},
		{"end", "rec t.end", "rec t.rec u.end"},
		{"!int.end", "rec t.!int.end", "!int.rec t.end", "rec t.!int.rec t.end"},
		{"rec t.&{a: rec u.+{b: t, c: u}}", "rec t.&{a: +{b: t, c: rec u.+{b: t, c: u}}}", "rec t.&{a: rec u.+{b: &{a: u}, c: u}}"},
	} {
		for _, a := range l {
			for _, b := range l {
				wantTypes(t, a, b, same)
			}
		}
	}
}

func TestRecursiveTypes(t *testing.T) {
	for _, x := range []struct {
		a, b string
		want verdict
	}{
		{"rec t.+{a: t, b: end}", "rec t.+{a: t}", below},
		{"rec t.+{a: t, b: end}", "+{a: +{a: end, b: end}}", neither},
		{"rec t.+{a: t, b: end}", "+{a: +{a: +{b: end}}}", below},
		{"rec t.+{a: t, b: end}", "rec t.+{a: +{a: +{a: t}, b: end}}", below},
		{"rec t.&{a: t}", "rec t.&{a: t, b: end}", below},
		{"rec t.&{a: &{a: t}}", "rec t.&{a: t, b: end}", below},
		{"rec t.&{a: &{a: t, c: end}}", "rec t.&{a: t, b: end}", neither},
		{"rec t.!(t).t", "rec t.!(t).!(t).t", same},
		{"rec t.?(t).+{a: t, b: end}", "rec t.?(t).+{a: t}", below},
		{"rec t.?(t).+{a: t, b: end}", "rec t.?(rec u.?(u).+{a: u}).+{a: t}", below},
		{"rec t.!(+{a: end}).t", "rec t.!(+{a: end, b: end}).t", below},
		{"rec t.!(+{a: end}).t", "rec t.!(+{a: end, b: end}).!(+{a: end}).t", below},
		{"rec t.!(+{a: end, b: end}).t", "rec t.!(+{a: end, b: end}).!(+{a: end}).t", above},
		{"rec t.!(+{a: end, b: end}).!(+{a: end}).t", "rec t.!(+{a: end}).!(+{a: end, b: end}).t", neither},
		{"rec t.!(+{a: t, b: t}).t", "rec t.!(rec u.+{a: rec v.!(u).v}).t", neither},
		{"rec t.?(+{a: t, b: t}).t", "rec t.?(rec u.+{a: rec v.?(u).v}).t", below},
	} {
		wantTypes(t, x.a, x.b, x.want)
	}
}

// What was taken to be related in one order is not related in the other one by that.
func TestPairInBothOrders(t *testing.T) {
	wantTypes(t, "rec t.!(t).+{a: end, b: end}", "rec t.!(t).+{a: end}", neither)
	wantTypes(t, "rec t.?(t).+{a: end, b: end}", "rec t.?(t).+{a: end}", below)
	wantTypes(t, "rec t.!(t).t", "rec t.!(rec u.!(u).u).t", same)
	wantTypes(t, "rec t.+{a: !(t).end, b: end}", "rec t.+{a: !(t).end}", neither)
	wantTypes(t, "rec t.+{a: !(!(t).end).end, b: end}", "rec t.+{a: !(!(t).end).end}", below)
	wantTypes(t, "rec t.+{a: t, b: !(t).end}", "rec t.+{a: t}", below)
	wantTypes(t, "rec t.&{a: !(t).t}", "rec t.&{a: !(t).t, b: end}", neither)
	wantTypes(t, "rec t.&{a: !(?(t).end).t}", "rec t.&{a: !(?(t).end).t, b: end}", neither)
	wantTypes(t, "rec t.&{a: !(!(t).end).t}", "rec t.&{a: !(!(t).end).t, b: end}", below)
	wantTypes(t, "!(+{a: end, b: end}).?(+{a: end, b: end}).end", "!(+{a: end}).?(+{a: end}).end", neither)
	wantTypes(t, "?(+{a: end, b: end}).?(+{a: end, b: end}).end", "?(+{a: end}).?(+{a: end}).end", below)
	g, _ := build(t, "!(rec t.+{a: t, b: end}).?(rec t.+{a: t}).?(rec t.+{a: t, b: end}).end")
	many, few := 1, 4
	if len(g.Nodes[many].Labels) != 2 || len(g.Nodes[few].Labels) != 1 {
		t.Fatal(g)
	}
	wantVerdict(t, g, ref(many, 0), ref(few, 0), below)
}

// Nodes that are taken to be related with their Shifts are met with other Shifts.
func TestPairWithOtherShifts(t *testing.T) {
	wantTypes(t, "rec t.!0 int.t+1", "rec t.!0 int.!1 int.t+2", same)
	wantTypes(t, "rec t.!0 int.t+1", "rec t.!0 int.!1 int.t+1", neither)
	wantTypes(t, "rec t.!0 int.t+1", "rec t.!0 int.!1 int.t+3", neither)
	wantTypes(t, "rec t.+{a: t+1, b: end}", "rec t.+{a: +1 {a: t+2}}", below)
	wantTypes(t, "rec t.+{a: t+1, b: end}", "rec t.+{a: +1 {a: t+1}}", neither)
	wantTypes(t, "rec t.+{a: t+1, b: t+2, c: end}", "rec t.+{a: t+1, b: t+1}", neither)
	wantTypes(t, "rec t.+{a: t+1, b: t+2, c: end}", "rec t.+{a: t+2, b: t+2}", neither)
	wantTypes(t, "rec t.+{a: t+1, b: t+2, c: end}", "rec t.+{a: t+1, b: t+2}", below)
	wantTypes(t, "rec t.&{a: t+5, b: &3 {a: t+5}}", "rec t.&{a: t+5, b: &3 {a: t+5, b: end}}", below)
	wantTypes(t, "rec t.&{a: t+5, b: &3 {a: t+5}}", "rec t.&{a: t+5, b: &3 {a: t+6, b: end}}", neither)
	wantTypes(t, "!(rec t.!1 int.t).end", "!(rec t.!1 int.t+1).end", neither)
}

// chain returns the text of a type that selects a label again and again, and goes on with an end. The letters tell what
// else it has: m a second label for the selections that it permits, and f none; a digit is a priority without a second label.
func chain(word, end string) string {
	s, brackets := "", ""
	for _, c := range word {
		switch c {
		case 'f':
			s += "+{a: "
		case 'm':
			s += "+{b: end, a: "
		default:
			s += fmt.Sprintf("+%c {a: ", c)
		}
		brackets += "}"
	}
	return s + end + brackets
}

// circle returns the text of a type that makes the selections of a word again and again.
func circle(word string) string {
	return "rec t." + chain(word, "t")
}

func TestChainsThatDifferAtTheEnd(t *testing.T) {
	few, many := strings.Repeat("f", 98), strings.Repeat("m", 98)
	wantTypes(t, chain(many, "end"), chain(few, "end"), below)
	wantTypes(t, chain(many, "end"), chain(few[1:]+"m", "end"), below)
	wantTypes(t, chain(many[1:]+"f", "end"), chain(few, "end"), below)
	wantTypes(t, chain(many[1:]+"f", "end"), chain(few[1:]+"m", "end"), neither)
	wantTypes(t, chain(few[1:]+"m", "end"), chain(few, "end"), below)
	wantTypes(t, chain(many, "end"), chain(few[1:], "end"), neither)
	wantTypes(t, chain(many, "end"), chain(few[1:]+"1", "end"), neither)
	wantTypes(t, chain(many[1:], "end"), chain(few[1:], "rec t.end"), below)
	wantTypes(t, chain(many[2:], "end"), circle(few[2:]), neither)
	wantTypes(t, circle("m"), circle(few[2:]), below)
	wantTypes(t, circle("f"), circle(many[2:]), above)
	wantTypes(t, circle("m"), circle(few[3:]+"m"), below)
	wantTypes(t, circle("f"), circle(few[3:]+"m"), above)
	wantTypes(t, circle("m"), circle(few[3:]+"2"), neither)
}

func TestCirclesOfDifferentLengths(t *testing.T) {
	for _, n := range []int{1, 2, 3, 5, 8, 13, 31, 48} {
		word := strings.Repeat("f", n-1) + "m"
		wantTypes(t, circle(word), circle(word+word), same)
		wantTypes(t, circle(word), chain(word, circle(word)), same)
		wantTypes(t, circle(word+"m"), circle(word+"f"), below)
		wantTypes(t, circle(word+word), circle(word+strings.Repeat("f", n)), below)
		wantTypes(t, circle(word+strings.Repeat("m", n)), circle(word), map[bool]verdict{true: same, false: below}[n == 1])
	}
	wantTypes(t, circle(strings.Repeat("fm", 47)), circle(strings.Repeat("ff", 46)), below)
	wantTypes(t, circle(strings.Repeat("ffm", 32)), circle(strings.Repeat("ffm", 31)), same)
	wantTypes(t, circle(strings.Repeat("ffm", 32)), circle(strings.Repeat("ffm", 30)+"fff"), below)
	wantTypes(t, circle(strings.Repeat("ffm", 32)), circle(strings.Repeat("ffm", 30)+"fmm"), above)
	wantTypes(t, circle(strings.Repeat("ffm", 31)+"fff"), circle(strings.Repeat("ffm", 30)+"fff"), neither)
}

// The words of circles of coprime lengths meet in each pair of letters: only one of the pairs is not related.
func TestCirclesThatDifferAfterManySteps(t *testing.T) {
	for _, n := range []int{2, 3, 10, 47, 96} {
		a, b := strings.Repeat("m", n-1)+"f", strings.Repeat("f", n)+"m"
		wantTypes(t, circle(a), circle(b), neither)
		wantTypes(t, circle(a+"m"), circle(b), below)
		wantTypes(t, circle(a), circle(strings.Repeat("f", n+1)), below)
		wantTypes(t, circle(strings.Repeat("m", n)), circle(b), below)
	}
	// One of the two has an even length, so that the odd letters do not meet in both of them.
	wantTypes(t, circle(strings.Repeat("mf", 48)), circle(strings.Repeat("ff", 46)+"mf"), below)
	wantTypes(t, circle(strings.Repeat("mf", 48)), circle(strings.Repeat("ff", 46)+"fm"), neither)
}

// The words of Fibonacci: two of them one after the other, repeated, agree for as many letters as both have, less two.
func TestTreesThatDifferAfterManySteps(t *testing.T) {
	short, long := "f", "fm"
	for len(long) <= 89 {
		a, b := strings.Repeat(short, 200)[:200], strings.Repeat(long, 200)[:200]
		if steps := len(short) + len(long) - 2; a[:steps] != b[:steps] || a[steps] == b[steps] {
			t.Fatalf("%s and %s do not differ after %d steps", short, long, steps)
		}
		want := neither
		if short == "f" || short == "m" {
			want = above
		}
		wantTypes(t, circle(short), circle(long), want)
		wantTypes(t, circle(long), circle(long), same)
		wantTypes(t, circle(long), circle(strings.Repeat("f", len(long)-1)), below)
		short, long = long, long+short
	}
}

// References of one type can be related, and there are shifts within the circle.
func TestReferencesWithinOneType(t *testing.T) {
	g, refs := build(t, "rec t.+0 {a: +1 {a: t+2}, b: end}")
	if len(refs) != 1 || len(g.Nodes) != 3 {
		t.Fatalf("%d nodes", len(g.Nodes))
	}
	wantVerdict(t, g, ref(0, 1), ref(1, 0), neither)
	g, _ = build(t, "rec t.+0 {a: +1 {a: rec u.+2 {a: u+1}, b: end}, b: end}")
	wantVerdict(t, g, ref(0, 1), ref(1, 0), below)
	wantVerdict(t, g, ref(0, 2), ref(2, 0), below)
	wantVerdict(t, g, ref(1, 1), ref(2, 0), below)
	wantVerdict(t, g, ref(0, 1), ref(2, 0), neither)
	wantVerdict(t, g, ref(3, 0), ref(4, 9), same)
	g, _ = build(t, "rec t.+0 {a: +1 {a: rec u.+2 {a: u+2}, b: end}, b: end}")
	wantVerdict(t, g, ref(0, 1), ref(1, 0), neither)
	wantVerdict(t, g, ref(0, 2), ref(2, 0), neither)
}

func TestSame(t *testing.T) {
	g, refs := build(t, "+{a: end, b: end}", "+{b: rec t.end, a: end}", "+{a: end}", "+{a: end, c: end}", "&{a: end, b: end}", "+1 {a: end, b: end}")
	for i, a := range refs {
		for j, b := range refs {
			want := i == j || i+j == 1
			if got := subtype.Same(g, a, b); got != want {
				t.Errorf("Same of %d and %d: got %v, want %v", i, j, got, want)
			}
		}
	}
	if !subtype.Same(g, raised(refs[0], 1), refs[5]) || !subtype.Same(g, refs[1], raised(refs[5], -1)) {
		t.Error("not the same when raised")
	}
}

// P11.2

func TestFits(t *testing.T) {
	for _, x := range []struct {
		a, b string
		want bool
	}{
		{"end", "end", true},
		{"end", "!int.end", false},
		{"!int.end", "?int.end", true},
		{"!int.end", "!int.end", false},
		{"!int.end", "?bool.end", false},
		{"!1 int.end", "?2 int.end", false},
		{"!1 int.!2 int.end", "?1 int.?2 int.end", true},
		{"!1 int.!2 int.end", "?1 int.!2 int.end", false},
		{"+{a: end}", "&{a: end}", true},
		{"+{a: end}", "&{a: end, b: !int.end}", false},
		{"+{a: end, b: !int.end}", "&{a: end}", true},
		{"+{a: end, b: !int.end}", "&{b: ?int.end}", true},
		{"+{a: end, b: !int.end}", "&{b: !int.end}", false},
		{"+{a: end, b: end}", "&{b: end, a: end}", true},
		{"+{a: end, b: end}", "&{b: end, c: end}", false},
		{"+{a: end}", "+{a: end}", false},
		{"!(+{a: end}).end", "?(+{a: end}).end", true},
		{"!(+{a: end}).end", "?(+{a: end, b: end}).end", true},
		{"!(+{a: end, b: end}).end", "?(+{a: end}).end", false},
		{"!(+{a: end}).end", "?(&{a: end}).end", false},
		{"rec t.!0 int.t+1", "?0 int.rec t.?1 int.t+1", true},
		{"rec t.!0 int.t+1", "rec t.?0 int.t+2", false},
		{"rec t.!(t).t", "rec t.?(rec u.!(u).u).t", true},
		{"rec t.!(t).t", "rec t.?(t).t", false},
		{"rec t.+{a: t, b: end}", "rec t.&{a: &{a: t}}", true},
		{"rec t.+{a: t, b: end}", "rec t.&{a: &{a: t, c: end}}", false},
		{"rec t.+3 {a: t+1, b: end}", "rec t.&3 {a: t+1}", true},
		{"rec t.+3 {a: t+1, b: end}", "rec t.&3 {a: t+2}", false},
	} {
		g, refs := build(t, x.a, x.b)
		g = dual.Close(g)
		for _, k := range shifts {
			a, b := raised(refs[0], k), raised(refs[1], k)
			if subtype.Fits(g, a, b) != x.want || subtype.Fits(g, b, a) != x.want {
				t.Errorf("%s and %s, raised by %d: got %v and %v, want %v", x.a, x.b, k, subtype.Fits(g, a, b), subtype.Fits(g, b, a), x.want)
			}
		}
	}
}

// A type fits its dual, what its dual is a subtype of does not fit it, and a subtype of its dual does.
func TestFitsOfDuals(t *testing.T) {
	for _, source := range []string{everyKind, circles, "end", "rec t.!int.t", "rec t.+{a: t, b: end}", "!(?int.end).end"} {
		g, refs := build(t, source)
		g = dual.Close(g)
		wantFits(t, g, refs[0], dual.Of(g, refs[0]), same)
		if want := source == "end"; subtype.Fits(g, refs[0], refs[0]) != want {
			t.Errorf("%s and itself: got %v, want %v", source, !want, want)
		}
		if isAction(g, refs[0]) && subtype.Fits(g, refs[0], raised(dual.Of(g, refs[0]), 1)) {
			t.Errorf("%s and its dual, raised: got true", source)
		}
	}
}

// P11.3

// ordered has types of which each one is a subtype exactly of those that its list of indices has.
var ordered = []struct {
	source string
	supers []int
}{
	{"int", []int{0}},
	{"bool", []int{1}},
	{"end", []int{2}},
	{"+{a: end, b: end, c: end}", []int{3, 4, 5, 6}},
	{"+{a: end, b: end}", []int{4, 6}},
	{"+{a: end, c: end}", []int{5, 6}},
	{"+{a: end}", []int{6}},
	{"rec t.+{a: t, b: t}", []int{7, 8, 9, 10}},
	{"rec t.+{a: t}", []int{8, 10}},
	{"rec t.+{b: +{a: t}}", []int{9}},
	{"+{a: rec t.+{a: t}}", []int{8, 10}},
	{"rec t.?(t).&{a: t}", []int{11, 12, 13}},
	{"rec t.?(t).&{a: t, b: t}", []int{12}},
	{"rec t.?(t).&{a: t, c: end}", []int{13}},
	{"rec t.!(+{a: end}).t", []int{14, 15, 16}},
	{"rec t.!(+{a: end}).!(+{a: end, b: end}).t", []int{15}},
	{"!(+{a: end, b: end}).rec t.!(+{a: end}).t", []int{16}},
	{"!1 int.end", []int{17}},
	{"!2 int.end", []int{18}},
}

// Each is a subtype of itself, and what is a subtype of a subtype is a subtype; subtypes of each other are equal; raising changes nothing.
func TestOrder(t *testing.T) {
	var sources []string
	for _, x := range ordered {
		sources = append(sources, x.source)
	}
	g, refs := build(t, sources...)
	g = dual.Close(g)
	for i, x := range ordered {
		want := map[int]bool{}
		for _, j := range x.supers {
			want[j] = true
		}
		for j, y := range ordered {
			for _, k := range shifts {
				a, b := raised(refs[i], k), raised(refs[j], k)
				if got := subtype.Sub(g, a, b); got != want[j] {
					t.Errorf("%s and %s, raised by %d: got %v, want %v", x.source, y.source, k, got, want[j])
				}
				if !isSession(g, a) || !isSession(g, b) {
					continue
				}
				if got := subtype.Sub(g, dual.Of(g, b), dual.Of(g, a)); got != want[j] {
					t.Errorf("the duals of %s and %s, raised by %d: got %v, want %v", y.source, x.source, k, got, want[j])
				}
				if subtype.Fits(g, a, dual.Of(g, b)) != want[j] || subtype.Fits(g, dual.Of(g, b), a) != want[j] {
					t.Errorf("%s and the dual of %s, raised by %d: want %v", x.source, y.source, k, want[j])
				}
			}
			if subtype.Sub(g, refs[i], refs[j]) && subtype.Sub(g, refs[j], refs[i]) != equal.Equal(g, refs[i], refs[j]) {
				t.Errorf("%s and %s: not equal, and subtypes of each other, or the other way round", x.source, y.source)
			}
		}
	}
}
