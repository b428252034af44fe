package proctree_test

import (
	"testing"

	"duologue/api"
	"duologue/proctree"
)

// P3.3: processes; programs are in program_test.go.

// oddProcs returns processes that are not well-formed, and no two of which are the same.
func oddProcs() []api.Proc {
	return []api.Proc{
		{}, {Kind: -1}, {Kind: 9}, {Chan: "a"}, {Chan: "A"}, {Chan: " "}, {Var: "a"}, {Var: "0+"}, {Labels: []string{""}}, {Labels: []string{"", ""}}, {Labels: []string{"a"}},
		{Args: []api.Value{{}}}, {Args: []api.Value{{}, {}}}, {Args: []api.Value{{Kind: 1}}}, {Args: []api.Value{{Name: "a"}}}, {Args: []api.Value{{N: 1}}}, {Args: []api.Value{{N: -1}}},
		{T: tint}, {T: api.Type{Prio: 1}}, {T: api.Type{Labels: []string{"a"}}}, {T: api.Type{Kids: []api.Type{{}}}}, {T: api.Type{Kids: []api.Type{{Shift: 1}}}},
		{Kids: []api.Proc{{}}}, {Kids: []api.Proc{{}, {}}}, {Kids: []api.Proc{{Kind: 9}}}, {Kids: []api.Proc{{Kids: []api.Proc{{}}}}},
		{Kind: api.PStop, Chan: "a", Var: "b", Labels: []string{"c"}, Args: []api.Value{num(1)}, T: tint, Kids: []api.Proc{{}, stop}},
	}
}

// clone copies a process by its fields.
func clone(p api.Proc) api.Proc {
	q := api.Proc{Kind: p.Kind, Chan: p.Chan, Var: p.Var, T: cloneType(p.T)}
	q.Labels = append(q.Labels, p.Labels...)
	q.Args = append(q.Args, p.Args...)
	for _, kid := range p.Kids {
		q.Kids = append(q.Kids, clone(kid))
	}
	return q
}

func cloneType(a api.Type) api.Type {
	b := api.Type{Kind: a.Kind, Prio: a.Prio, Name: a.Name, Shift: a.Shift}
	b.Labels = append(b.Labels, a.Labels...)
	for _, kid := range a.Kids {
		b.Kids = append(b.Kids, cloneType(kid))
	}
	return b
}

func TestSame(t *testing.T) {
	l := append(oddProcs(), stop, send("a", name("b"), stop), send("b", name("b"), stop), send("a", name("c"), stop), send("a", num(1), stop), send("a", boolean(1), stop), send("a", num(2), stop), send("a", name("b"), recv("a", "b", stop)),
		recv("a", "b", stop), recv("b", "b", stop), recv("a", "c", stop), recv("a", "b", recv("a", "b", stop)),
		sel("a", "l", stop), sel("b", "l", stop), sel("a", "m", stop), branch("a", "l", stop), branch("a", "l m", stop, stop), branch("a", "m l", stop, stop), branch("a", "l m", stop, call("X")), branch("a", "l m", call("X"), stop),
		restrict("a", "b", tend, stop), restrict("b", "a", tend, stop), restrict("a", "c", tend, stop), restrict("a", "b", tsend(0, tint, tend), stop), restrict("a", "b", tsend(1, tint, tend), stop), restrict("a", "b", tsend(0, tbool, tend), stop), restrict("a", "b", tend, call("X")),
		restrict("a", "b", trec("t", tend), stop), restrict("a", "b", trec("u", tend), stop),
		par(stop, stop), par(stop, stop, stop), par(stop, call("X")), par(call("X"), stop), call("X"), call("Y"), call("X", name("a")), call("X", name("b")), call("X", num(1), num(2)), call("X", num(2), num(1)), chain(1000), chain(999))
	for i, p := range l {
		for j, q := range l {
			if proctree.Same(p, clone(q)) != (i == j) {
				t.Errorf("%s and %s: want %v", short(p), short(q), i == j)
			}
		}
	}
}

func TestSameLooksDeepIntoBoth(t *testing.T) {
	p, q := stop, call("X")
	for range 100 {
		p, q = branch("a", "b c", stop, recv("a", "x", p)), branch("a", "b c", stop, recv("a", "x", q))
		if proctree.Same(p, q) || proctree.Same(q, p) || !proctree.Same(q, clone(q)) {
			t.Fatalf("%s and %s", short(p), short(q))
		}
	}
}

func TestSizeAndDepth(t *testing.T) {
	for _, c := range []struct {
		p           api.Proc
		size, depth int
	}{
		{api.Proc{}, 1, 1}, {stop, 1, 1}, {call("X"), 1, 1}, {call("X", num(1), name("a")), 1, 1}, {send("a", num(1), stop), 2, 2}, {recv("a", "x", stop), 2, 2}, {sel("a", "go", stop), 2, 2},
		{par(stop, stop), 3, 2}, {par(stop, stop, stop, stop), 5, 2}, {branch("a", "b c", stop, recv("a", "x", stop)), 4, 3}, {branch("a", "b c", recv("a", "x", stop), stop), 4, 3},
		{branch("a", "b c d", stop, restrict("a", "b", tend, send("a", num(1), stop)), recv("a", "x", stop)), 7, 4},
		{restrict("a", "b", wideType(500), stop), 2, 2}, {restrict("a", "b", longType(500), stop), 2, 2},
		{api.Proc{Kind: api.PStop, Labels: []string{"a", "b"}, Args: []api.Value{{}}, T: wideType(9)}, 1, 1}, {api.Proc{Kind: 77, Kids: []api.Proc{{}, {Kids: []api.Proc{{}}}}}, 4, 3}, {api.Proc{Kind: api.PCall, Kids: []api.Proc{stop}}, 2, 2},
		{chain(100), 100, 100}, {chain(1000), 1000, 1000}, {wide(20000), 20000, 2}, {par(chain(500), chain(1), chain(999), wide(3)), 1504, 1000},
	} {
		if size, depth := proctree.Size(c.p), proctree.Depth(c.p); size != c.size || depth != c.depth {
			t.Errorf("%s: got %d nodes and depth %d, want %d and %d", short(c.p), size, depth, c.size, c.depth)
		}
	}
}

func TestPrefix(t *testing.T) {
	for k := -2; k < 20; k++ {
		want := k == api.PSend || k == api.PRecv || k == api.PSelect || k == api.PBranch
		for _, p := range []api.Proc{{Kind: k}, {Kind: k, Chan: "a", Kids: []api.Proc{stop}}, {Kind: k, Kids: []api.Proc{recv("a", "x", stop), stop}}} {
			if proctree.Prefix(p) != want {
				t.Errorf("%s: want %v", text(p), want)
			}
		}
	}
	for _, k := range []int{256 + api.PSend, -1 << 63, 1<<63 - 1} {
		if proctree.Prefix(api.Proc{Kind: k}) {
			t.Errorf("%d is a prefix", k)
		}
	}
}

func TestCopy(t *testing.T) {
	l := append(oddProcs(), ofEachKind()...)
	l = append(l, restrict("a", "b", trec("t", tsend(3, tsend(1, tint, tend), tvar("t"))), par(send("a", name("b"), stop), branch("b", "l m", call("X", num(1), boolean(1)), stop))), chain(1000), wide(300))
	for _, p := range l {
		if got := proctree.Copy(p); text(got) != text(p) || !proctree.Same(got, p) {
			t.Errorf("%s: copied to %s", short(p), short(got))
		}
	}
}
