package check_test

import (
	"fmt"
	"math/rand/v2"
	"slices"
	"testing"

	"duologue/api"
	"duologue/dual"
	"duologue/graph"
	"duologue/proctree"
	"duologue/readback"
	"duologue/scope"
	"duologue/typetree"
)

// maker makes programs by chance, the same ones each time, most of which have no error before they are changed.
type maker struct {
	*rand.Rand
	fresh int
	defs  []api.Def
}

func (m *maker) name() string {
	m.fresh++
	return fmt.Sprint("n", m.fresh)
}

// oneOf is true for one in some choices.
func (m *maker) oneOf(n int) bool {
	return m.IntN(n) == 0
}

// session makes a session type whose actions come after a priority; bound has the priorities of the TRecs around, by their names.
func (m *maker) session(depth, prio int, bound map[string]int) api.Type {
	if depth == 0 || m.oneOf(8) {
		for name, at := range bound {
			return api.Type{Kind: api.TVar, Name: name, Shift: prio - at + m.IntN(2)}
		}
		return api.Type{Kind: api.TEnd}
	}
	prio += m.IntN(3)
	if len(bound) == 0 && m.oneOf(3) {
		name := m.name()
		return api.Type{Kind: api.TRec, Name: name, Kids: []api.Type{m.action(depth, prio, map[string]int{name: prio})}}
	}
	return m.action(depth, prio, bound)
}

// action makes a type that begins with an action.
func (m *maker) action(depth, prio int, bound map[string]int) api.Type {
	t := api.Type{Kind: api.TSend + m.IntN(4), Prio: prio}
	if t.Kind == api.TSend || t.Kind == api.TRecv {
		t.Kids = []api.Type{{Kind: api.TInt + m.IntN(3)}, m.session(depth-1, prio+1, bound)}
		if m.oneOf(3) {
			t.Kids[0] = m.session(depth-1, prio+1+m.IntN(3), nil)
		}
		return t
	}
	for _, label := range [][]string{{"l"}, {"m", "l"}, {"l", "m", "k"}}[m.IntN(3)] {
		t.Labels = append(t.Labels, label)
		t.Kids = append(t.Kids, m.session(depth-1, prio+1, bound))
	}
	return t
}

// dualType is the dual of a type, as a tree.
func dualType(t api.Type) api.Type {
	g, refs := graph.Build([]api.Type{t})
	g = dual.Close(g)
	return readback.Normal(g, dual.Of(g, refs[0]))
}

// head is the first node of a type that is unfolded.
func head(t api.Type) api.Type {
	if t.Kind != api.TRec {
		return t
	}
	return typetree.Unfold(t)
}

// changedType are the parameters with another type of a name.
func changedType(c []api.Param, name string, t api.Type) []api.Param {
	c = slices.Clone(c)
	for i := range c {
		if c[i].Name == name {
			c[i].T = t
		}
	}
	return c
}

func without(c []api.Param, name string) []api.Param {
	return slices.DeleteFunc(slices.Clone(c), func(q api.Param) bool { return q.Name == name })
}

// liveParams are those whose types begin with an action, by their priorities.
func liveParams(c []api.Param) []api.Param {
	l := slices.DeleteFunc(slices.Clone(c), func(q api.Param) bool { return !isAction(head(q.T).Kind) })
	slices.SortStableFunc(l, func(a, b api.Param) int { return head(a.T).Prio - head(b.T).Prio })
	return l
}

// process makes a process for a context, which calls definitions only if it is guarded.
func (m *maker) process(c []api.Param, depth int, guarded bool) api.Proc {
	l := liveParams(c)
	tie := len(l) > 1 && head(l[0].T).Prio >= head(l[1].T).Prio
	switch {
	case len(l) == 0 && (depth < 1 || m.oneOf(2)):
		return api.Proc{Kind: api.PStop}
	case depth > 0 && m.oneOf(4) && len(l) < 3 || len(l) == 0:
		return m.open(c, depth, guarded)
	case tie && !m.oneOf(20) || len(l) > 1 && m.oneOf(4):
		return m.parallel(c, l, depth, guarded)
	case guarded && (depth < 1 || m.oneOf(6)):
		return m.call(c, l)
	}
	return m.prefix(c, l[0], depth)
}

func (m *maker) open(c []api.Param, depth int, guarded bool) api.Proc {
	p := api.Proc{Kind: api.PNew, Chan: m.name(), Var: m.name(), T: m.session(1+m.IntN(2), m.IntN(6), nil)}
	c = append(slices.Clip(c), api.Param{Name: p.Chan, T: p.T}, api.Param{Name: p.Var, T: dualType(p.T)})
	p.Kids = []api.Proc{m.process(c, depth-1, guarded)}
	return p
}

// parallel splits the live names between some processes.
func (m *maker) parallel(c, live []api.Param, depth int, guarded bool) api.Proc {
	kids := make([][]api.Param, 2+m.IntN(2))
	for i, q := range live {
		c = without(c, q.Name)
		to := (i + m.IntN(5)/4) % len(kids)
		kids[to] = append(kids[to], q)
	}
	p := api.Proc{Kind: api.PPar}
	for i := range kids {
		kid := m.process(append(slices.Clone(c), kids[i]...), depth-1, guarded)
		if kid.Kind == api.PPar {
			kid = api.Proc{Kind: api.PNew, Chan: m.name(), Var: m.name(), T: api.Type{Kind: api.TEnd}, Kids: []api.Proc{kid}}
		}
		p.Kids = append(p.Kids, kid)
	}
	return p
}

func (m *maker) prefix(c []api.Param, q api.Param, depth int) api.Proc {
	t := head(q.T)
	switch t.Kind {
	case api.TSend:
		return m.send(c, q.Name, t, depth)
	case api.TRecv:
		p := api.Proc{Kind: api.PRecv, Chan: q.Name, Var: m.name()}
		c = append(changedType(c, q.Name, t.Kids[1]), api.Param{Name: p.Var, T: t.Kids[0]})
		p.Kids = []api.Proc{m.process(c, depth-1, true)}
		return p
	case api.TSelect:
		i := m.IntN(len(t.Labels))
		return api.Proc{Kind: api.PSelect, Chan: q.Name, Labels: []string{t.Labels[i]}, Kids: []api.Proc{m.process(changedType(c, q.Name, t.Kids[i]), depth-1, true)}}
	}
	p := api.Proc{Kind: api.PBranch, Chan: q.Name}
	for _, i := range m.Perm(len(t.Labels)) {
		p.Labels = append(p.Labels, t.Labels[i])
		p.Kids = append(p.Kids, m.process(changedType(c, q.Name, t.Kids[i]), depth-1, true))
	}
	return p
}

func isFit(a, b api.Type) bool {
	return isSub(known{a, false}, known{b, false}, map[string]bool{})
}

// send makes a PSend, of a name in the context, or of a new channel if there is none that fits.
func (m *maker) send(c []api.Param, channel string, t api.Type, depth int) api.Proc {
	p := api.Proc{Kind: api.PSend, Chan: channel, Args: []api.Value{{Kind: api.VInt, N: m.Int64N(9) - 4}}}
	u := head(t.Kids[0])
	if u.Kind == api.TBool {
		p.Args[0] = api.Value{Kind: api.VBool, N: m.Int64N(2)}
	}
	rest := changedType(c, channel, t.Kids[1])
	fits := slices.DeleteFunc(slices.Clone(c), func(q api.Param) bool { return q.Name == channel || !isFit(q.T, u) })
	if len(fits) > 0 && (u.Kind > api.TBool || m.oneOf(2)) {
		q := fits[m.IntN(len(fits))]
		p.Args[0] = api.Value{Kind: api.VName, Name: q.Name}
		if isAction(u.Kind) {
			rest = without(rest, q.Name)
		}
	} else if u.Kind > api.TBool {
		n := api.Proc{Kind: api.PNew, Chan: m.name(), Var: m.name(), T: t.Kids[0]}
		p.Args[0] = api.Value{Kind: api.VName, Name: n.Chan}
		p.Kids = []api.Proc{m.process(append(rest, api.Param{Name: n.Var, T: dualType(n.T)}), depth-1, true)}
		n.Kids = []api.Proc{p}
		return n
	}
	p.Kids = []api.Proc{m.process(rest, depth-1, true)}
	return p
}

// call makes a call of a definition that fits all live names, or of a new one.
func (m *maker) call(c, live []api.Param) api.Proc {
	for _, i := range m.Perm(len(m.defs)) {
		if args, fits := m.args(m.defs[i].Params, c, live); fits {
			return api.Proc{Kind: api.PCall, Chan: m.defs[i].Name, Args: args}
		}
	}
	switch {
	case len(live) > 1 && len(m.defs) > 5:
		// Single names have the same types again and again, so that definitions for them end.
		p := api.Proc{Kind: api.PPar}
		for _, q := range live {
			p.Kids = append(p.Kids, m.call(c, []api.Param{q}))
		}
		return p
	case len(m.defs) > 30:
		return api.Proc{Kind: api.PStop}
	}
	basic := api.Param{Name: m.name(), T: api.Type{Kind: api.TInt + m.IntN(2)}}
	d := api.Def{Name: fmt.Sprint("X", len(m.defs)), Params: []api.Param{basic}}
	args := []api.Value{m.value(c, basic.T.Kind)}
	k := m.IntN(5) - 2
	if len(live) > 0 {
		k = max(k, -head(live[0].T).Prio)
	}
	for _, q := range live {
		if t := typetree.Raise(q.T, k); typetree.Right(t) == api.OK {
			d.Params = append(d.Params, api.Param{Name: m.name(), T: t})
			args = append(args, api.Value{Kind: api.VName, Name: q.Name})
		}
	}
	m.Shuffle(len(args), func(i, j int) {
		d.Params[i], d.Params[j] = d.Params[j], d.Params[i]
		args[i], args[j] = args[j], args[i]
	})
	m.defs = append(m.defs, d)
	return api.Proc{Kind: api.PCall, Chan: d.Name, Args: args}
}

// args are some for parameters, and whether they fit.
func (m *maker) args(params, c, live []api.Param) ([]api.Value, bool) {
	var args []api.Value
	left := slices.Clone(live)
	k, isKnown := 0, false
	for _, p := range params {
		t := head(p.T)
		if !isAction(t.Kind) {
			args = append(args, m.value(c, t.Kind))
			continue
		}
		i := slices.IndexFunc(left, func(q api.Param) bool {
			raise := k
			if !isKnown {
				raise = head(q.T).Prio - t.Prio
			}
			return isFit(q.T, typetree.Raise(p.T, raise))
		})
		if i < 0 {
			return nil, false
		}
		if !isKnown {
			k, isKnown = head(left[i].T).Prio-t.Prio, true
		}
		args = append(args, api.Value{Kind: api.VName, Name: left[i].Name})
		left = slices.Delete(left, i, i+1)
	}
	return args, len(left) == 0
}

// value is one of a Kind without actions; end has names only, and there may be none.
func (m *maker) value(c []api.Param, kind int) api.Value {
	for _, q := range c {
		if head(q.T).Kind == kind && m.oneOf(2) {
			return api.Value{Kind: api.VName, Name: q.Name}
		}
	}
	if kind == api.TBool {
		return api.Value{Kind: api.VBool, N: m.Int64N(2)}
	}
	return api.Value{Kind: api.VInt, N: m.Int64N(9)}
}

// program makes a program, whose definitions are those that are called.
func (m *maker) program() api.Program {
	m.fresh, m.defs = 0, nil
	if m.oneOf(2) {
		d := api.Def{Name: "X0"}
		for range 1 + m.IntN(3) {
			d.Params = append(d.Params, api.Param{Name: m.name(), T: m.session(1+m.IntN(3), m.IntN(6), nil)})
		}
		m.defs = append(m.defs, d)
	}
	p := api.Program{Main: m.process(nil, 2+m.IntN(4), true)}
	for i := 0; i < len(m.defs); i++ {
		body := m.process(m.defs[i].Params, 1+m.IntN(2), false)
		m.defs[i].Body = body
	}
	p.Defs = m.defs
	return p
}

// nodesOf are the nodes of a process.
func nodesOf(p *api.Proc) []*api.Proc {
	l := []*api.Proc{p}
	for i := range p.Kids {
		l = append(l, nodesOf(&p.Kids[i])...)
	}
	return l
}

// copied is a program in new memory.
func copied(p api.Program) api.Program {
	p.Defs = slices.Clone(p.Defs)
	for i, d := range p.Defs {
		p.Defs[i].Body = proctree.Copy(d.Body)
		p.Defs[i].Params = slices.Clone(d.Params)
		for j, q := range d.Params {
			p.Defs[i].Params[j].T = typetree.Copy(q.T)
		}
	}
	p.Main = proctree.Copy(p.Main)
	return p
}

// changed is a program in which a body or the types of parameters are changed; it may have faults. The second result tells
// whose errors may be others then.
func (m *maker) changed(p api.Program) (api.Program, func(i int) bool) {
	p = copied(p)
	if len(p.Defs) > 0 && m.oneOf(3) {
		at := m.IntN(len(p.Defs))
		d := p.Defs[at]
		m.changeType(&d.Params[m.IntN(len(d.Params))].T)
		return p, func(i int) bool {
			return i == at || i < len(p.Defs) && slices.Contains(scope.Calls(p.Defs[i].Body), d.Name) || i == len(p.Defs) && slices.Contains(scope.Calls(p.Main), d.Name)
		}
	}
	at := m.IntN(len(p.Defs) + 1)
	body := &p.Main
	if at < len(p.Defs) {
		body = &p.Defs[at].Body
	}
	changes := []func(n, other *api.Proc){m.changeChan, m.changeArg, m.changeLabel, m.exchange, m.changeKids, m.changeNew}
	before := proctree.Copy(*body)
	for tries := 0; tries < 9 && (proctree.Same(*body, before) || m.oneOf(3)); tries++ {
		nodes := nodesOf(body)
		i := m.IntN(len(nodes))
		near := min(max(0, i+m.IntN(9)-5), len(nodes)-1)
		changes[m.IntN(len(changes))](nodes[i], nodes[near])
	}
	return p, func(i int) bool { return i == at }
}

func (m *maker) changeChan(n, other *api.Proc) {
	n.Chan = []string{other.Chan, other.Var}[m.IntN(2)]
}

func (m *maker) changeArg(n, other *api.Proc) {
	values := append([]api.Value{{Kind: api.VName, Name: other.Chan}, {Kind: api.VName, Name: n.Chan}, {Kind: api.VBool, N: 1}, {Kind: api.VInt}}, other.Args...)
	if len(n.Args) > 0 {
		n.Args[m.IntN(len(n.Args))] = values[m.IntN(len(values))]
	}
}

func (m *maker) changeLabel(n, _ *api.Proc) {
	if len(n.Labels) > 0 {
		n.Labels[m.IntN(len(n.Labels))] = []string{"l", "m", "k", "o"}[m.IntN(4)]
	}
}

// exchange exchanges a node and its Kid.
func (m *maker) exchange(n, _ *api.Proc) {
	if len(n.Kids) == 1 && len(n.Kids[0].Kids) == 1 {
		below := n.Kids[0]
		n.Kids, below.Kids = below.Kids, []api.Proc{*n}
		*n = below
	}
}

// changeKids exchanges two Kids, or leaves a node out, or all below it.
func (m *maker) changeKids(n, _ *api.Proc) {
	switch kids := len(n.Kids); {
	case m.oneOf(4):
		*n = api.Proc{Kind: api.PStop}
	case kids == 1:
		*n = n.Kids[0]
	case kids > 1:
		i, j := m.IntN(kids), m.IntN(kids)
		n.Kids[i], n.Kids[j] = n.Kids[j], n.Kids[i]
	}
}

func (m *maker) changeNew(n, _ *api.Proc) {
	if n.Kind == api.PNew {
		m.changeType(&n.T)
	}
}

// changeType changes a node of a type.
func (m *maker) changeType(t *api.Type) {
	for len(t.Kids) > 0 && (t.Kind == api.TRec || m.oneOf(2)) {
		t = &t.Kids[m.IntN(len(t.Kids))]
	}
	switch {
	case t.Kind == api.TInt:
		t.Kind = api.TBool
	case t.Kind == api.TVar:
		t.Shift = max(0, t.Shift+m.IntN(3)-1)
	case isAction(t.Kind) && m.oneOf(2):
		t.Kind = dual.Kind(t.Kind)
	case isAction(t.Kind):
		t.Prio = max(0, t.Prio+m.IntN(5)-2)
	}
}

// splits is the greatest sum of names that are split on a way through a process.
func splits(p api.Proc) int {
	most := 0
	for _, kid := range p.Kids {
		most = max(most, splits(kid))
	}
	if p.Kind == api.PPar {
		most += len(proctree.Free(p))
	}
	return most
}

// tooLarge reports whether a program has so many names that not all splits can be tried.
func tooLarge(p api.Program) bool {
	for _, d := range append(slices.Clip(p.Defs), api.Def{Body: p.Main}) {
		if splits(d.Body) > 7 {
			return true
		}
	}
	return proctree.Total(p) > 1000
}

func TestProgramsMadeByChance(t *testing.T) {
	m := &maker{Rand: rand.New(rand.NewPCG(14, 1))}
	made, changed := counts{}, counts{}
	for range 200 {
		p := m.program()
		if tooLarge(p) {
			continue
		}
		wantLikeModel(t, p, all, made)
		for range 60 {
			q, some := m.changed(p)
			if scope.Check(q).Err == ok && !tooLarge(q) {
				wantLikeModel(t, q, some, changed)
			}
		}
	}
	t.Log(made)
	if made[[2]api.Errno{ok, ok}] < 600 {
		t.Errorf("too few bodies without an error: %v", made)
	}
	changed.wantEach(t, 1)
}
