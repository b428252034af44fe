package scope_test

import (
	"fmt"
	"math/rand/v2"
	"slices"
	"testing"

	"duologue/api"
	"duologue/proctree"
	"duologue/scope"
	"duologue/show"
)

// The functions of this file find the results in another way than the package: from lists of all nodes, with the nodes around each.

type spot struct {
	node   api.Proc
	around []api.Proc
}

// spots are the nodes of a process, in order.
func spots(p api.Proc, around ...api.Proc) []spot {
	l := []spot{{p, around}}
	for _, kid := range p.Kids {
		l = append(l, spots(kid, append(slices.Clip(around), p)...)...)
	}
	return l
}

func binders(p api.Proc) []string {
	switch p.Kind {
	case api.PRecv:
		return []string{p.Var}
	case api.PNew:
		return []string{p.Chan, p.Var}
	}
	return nil
}

func isPrefix(p api.Proc) bool {
	return p.Kind == api.PSend || p.Kind == api.PRecv || p.Kind == api.PSelect || p.Kind == api.PBranch
}

// names are those of a list of parameters.
func names(l []api.Param) []string {
	var s []string
	for _, q := range l {
		s = append(s, q.Name)
	}
	return s
}

// errorAt is the error of a node, where each further name in scope is one of a list.
func errorAt(p api.Program, s spot, inScope []string, inMain bool) api.Errno {
	for _, n := range s.around {
		inScope = append(slices.Clip(inScope), binders(n)...)
	}
	needs := []string{}
	if isPrefix(s.node) {
		needs = append(needs, s.node.Chan)
	}
	for _, v := range s.node.Args {
		if v.Kind == api.VName {
			needs = append(needs, v.Name)
		}
	}
	isIn := func(name string) bool { return slices.Contains(inScope, name) }
	if slices.ContainsFunc(needs, func(name string) bool { return !isIn(name) }) {
		return api.ErrName
	}
	if slices.ContainsFunc(binders(s.node), isIn) {
		return api.ErrTwice
	}
	if s.node.Kind != api.PCall {
		return api.OK
	}
	i := slices.IndexFunc(p.Defs, func(d api.Def) bool { return d.Name == s.node.Chan })
	if i < 0 {
		return api.ErrName
	}
	if len(p.Defs[i].Params) != len(s.node.Args) {
		return api.ErrArity
	}
	if !inMain && !slices.ContainsFunc(s.around, isPrefix) {
		return api.ErrGuard
	}
	return api.OK
}

func twice(l []string) bool {
	sorted := slices.Sorted(slices.Values(l))
	return len(slices.Compact(sorted)) < len(l)
}

// fault is that of a program which layer 3 finds right.
func fault(p api.Program) api.Fault {
	var defined []string
	for i, d := range p.Defs {
		defined = append(defined, d.Name)
		if twice(defined) || twice(names(d.Params)) {
			return api.Fault{Err: api.ErrTwice, At: i}
		}
	}
	for i, d := range append(slices.Clip(p.Defs), api.Def{Body: p.Main}) {
		for _, s := range spots(d.Body) {
			if err := errorAt(p, s, names(d.Params), i == len(p.Defs)); err != api.OK {
				return api.Fault{Err: err, At: i}
			}
		}
	}
	return api.Fault{}
}

// wantLikeModel checks all results for a program, and returns its fault.
func wantLikeModel(t *testing.T, p api.Program) api.Fault {
	t.Helper()
	want := fault(p)
	wantFault(t, p, want.Err, want.At)
	if want.Err == api.OK {
		wantNoFreeNames(t, p)
	}
	return want
}

// wantNoFreeNames checks P6.3.
func wantNoFreeNames(t *testing.T, p api.Program) {
	t.Helper()
	for _, d := range append(slices.Clip(p.Defs), api.Def{Name: "main", Body: p.Main}) {
		for _, name := range proctree.Free(d.Body) {
			if !slices.Contains(names(d.Params), name) {
				t.Errorf("%s: %s is free in %s", show.Program(p), name, d.Name)
			}
		}
	}
}

// wantListsLikeModel checks Calls and Binders.
func wantListsLikeModel(t *testing.T, p api.Proc) {
	t.Helper()
	var calls, bound []string
	for _, s := range spots(p) {
		bound = append(bound, binders(s.node)...)
		if s.node.Kind == api.PCall {
			calls = append(calls, s.node.Chan)
		}
	}
	if got := scope.Calls(p); !slices.Equal(got, calls) {
		t.Errorf("%s: got the calls %q, want %q", show.Process(p), got, calls)
	}
	if got := scope.Binders(p); !slices.Equal(got, bound) {
		t.Errorf("%s: got the binders %q, want %q", show.Process(p), got, bound)
	}
}

// over are the processes with one node more than those of a list, or with the nodes of two of them.
func over(l []string) []string {
	var all []string
	for _, s := range l {
		all = append(all, "a!<b>.("+s+")", "b!<1>.("+s+")", "a?(b).("+s+")", "b?(c).("+s+")", "b.l.("+s+")", "new (b, c: end) ("+s+")", "new (c, a: end) ("+s+")", s+" | stop")
		for _, r := range l {
			all = append(all, s+" | "+r, "a&{l: "+s+", m: "+r+"}")
		}
	}
	return all
}

func TestSmallPrograms(t *testing.T) {
	leaves := []string{"stop", "X<a>", "X<c>", "Y<a, b>", "Y<>", "Z<>"}
	small := append(over(leaves), leaves...)
	seen := map[api.Fault]int{}
	frame := program(t, "def Y(a: end, b: end) = stop; def X(a: end) = stop; main = stop;")
	for _, text := range over(small) {
		body := process(t, text)
		wantListsLikeModel(t, body)
		p, q, r := frame, frame, frame
		p.Defs, q.Defs = slices.Clone(frame.Defs), slices.Clone(frame.Defs)
		p.Defs[0].Body, q.Defs[1].Body = body, body
		r.Main = api.Proc{Kind: api.PNew, Chan: "b", Var: "a", T: api.Type{Kind: api.TEnd}, Kids: []api.Proc{body}}
		for _, p := range []api.Program{p, q, r, {Defs: frame.Defs, Main: body}} {
			seen[wantLikeModel(t, p)]++
		}
	}
	// Four errors are in each definition, three in Main, and none in some programs.
	if len(seen) != 12 {
		t.Errorf("other faults than those of each body: %v", seen)
	}
	for f, n := range seen {
		if n < 300 {
			t.Errorf("too few programs with the fault %v: %d", f, n)
		}
	}
}

// maker makes programs by chance, the same ones each time, many of them with faults.
type maker struct {
	*rand.Rand
	fresh int
}

// rarely is true for one in many choices.
func (m *maker) rarely() bool {
	return m.IntN(60) == 0
}

func (m *maker) anyName() string {
	return fmt.Sprint("n", m.IntN(m.fresh+3))
}

// use is a name in scope, or rarely any other.
func (m *maker) use(inScope []string) string {
	if len(inScope) == 0 || m.rarely() {
		return m.anyName()
	}
	return inScope[m.IntN(len(inScope))]
}

// bind is a new name, or rarely any other.
func (m *maker) bind() string {
	if m.rarely() {
		return m.anyName()
	}
	m.fresh++
	return fmt.Sprint("n", m.fresh)
}

func (m *maker) value(inScope []string) api.Value {
	if len(inScope) > 0 && m.IntN(3) > 0 {
		return api.Value{Kind: api.VName, Name: m.use(inScope)}
	}
	return api.Value{Kind: api.VInt, N: m.Int64N(9)}
}

// call is one of a definition, rarely of none or with another number of Args.
func (m *maker) call(defs []api.Def, inScope []string) api.Proc {
	if len(defs) == 0 {
		return stop
	}
	d := defs[m.IntN(len(defs))]
	n := api.Proc{Kind: api.PCall, Chan: d.Name}
	if m.rarely() {
		n.Chan = fmt.Sprint("X", m.IntN(len(defs)+3))
	}
	for range d.Params {
		n.Args = append(n.Args, m.value(inScope))
	}
	if m.rarely() {
		n.Args = append(n.Args, m.value(inScope))
	}
	return n
}

func (m *maker) process(depth int, defs []api.Def, inScope []string, guarded bool) api.Proc {
	kid := func(more ...string) api.Proc {
		return m.process(depth-1, defs, append(slices.Clip(inScope), more...), true)
	}
	kinds := []int{api.PStop, api.PCall, api.PNew, api.PSend, api.PRecv, api.PSelect, api.PBranch}
	kind := kinds[m.IntN(len(kinds))]
	if len(inScope) == 0 {
		kind = kinds[m.IntN(3)]
	}
	if depth < 2 {
		kind = kinds[m.IntN(2)]
	}
	n := api.Proc{Kind: kind, Chan: m.use(inScope)}
	switch kind {
	case api.PStop:
		return stop
	case api.PCall:
		if !guarded && !m.rarely() {
			return stop
		}
		return m.call(defs, inScope)
	case api.PSend:
		n.Args = []api.Value{m.value(inScope)}
		n.Kids = []api.Proc{kid()}
	case api.PRecv:
		n.Var = m.bind()
		n.Kids = []api.Proc{kid(n.Var)}
	case api.PSelect:
		n.Labels, n.Kids = []string{"l"}, []api.Proc{kid()}
	case api.PBranch:
		n.Labels, n.Kids = []string{"m", "l", "n1"}, []api.Proc{kid(), kid(), kid()}
	case api.PNew:
		n.Chan, n.Var, n.T = m.bind(), m.bind(), api.Type{Kind: api.TEnd}
		if n.Chan == n.Var {
			n.Var += "_"
		}
		n.Kids = []api.Proc{m.part(depth-1, defs, append(slices.Clip(inScope), n.Chan, n.Var), guarded)}
	}
	return n
}

// part is a process, or some of them beside each other.
func (m *maker) part(depth int, defs []api.Def, inScope []string, guarded bool) api.Proc {
	n := api.Proc{Kind: api.PPar}
	for range 1 + m.IntN(3) {
		n.Kids = append(n.Kids, m.process(depth, defs, inScope, guarded))
	}
	if len(n.Kids) == 1 {
		return n.Kids[0]
	}
	return n
}

func (m *maker) program() api.Program {
	m.fresh = 0
	defs := make([]api.Def, m.IntN(5))
	for i := range defs {
		defs[i].Name = fmt.Sprint("X", i)
		if m.rarely() {
			defs[i].Name = fmt.Sprint("X", m.IntN(len(defs)))
		}
		for range m.IntN(4) {
			defs[i].Params = append(defs[i].Params, api.Param{Name: m.bind(), T: api.Type{Kind: api.TInt}})
		}
	}
	for i, d := range defs {
		defs[i].Body = m.part(2+m.IntN(4), defs, names(d.Params), false)
	}
	return api.Program{Defs: defs, Main: m.part(2+m.IntN(4), defs, nil, true)}
}

func TestProgramsMadeByChance(t *testing.T) {
	m := &maker{Rand: rand.New(rand.NewPCG(6, 1))}
	errors, places := map[api.Errno]int{}, map[int]int{}
	for range 20000 {
		p := m.program()
		f := wantLikeModel(t, p)
		errors[f.Err]++
		places[f.At]++
		wantListsLikeModel(t, p.Main)
	}
	for _, err := range []api.Errno{api.OK, api.ErrName, api.ErrTwice, api.ErrArity, api.ErrGuard} {
		if errors[err] < 300 {
			t.Errorf("too few programs with the error %d: %v", err, errors)
		}
	}
	if len(errors) != 5 || len(places) != 5 || places[4] < 100 {
		t.Errorf("other faults than intended: %v %v", errors, places)
	}
}
