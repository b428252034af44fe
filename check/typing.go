package check

import (
	"slices"

	"duologue/api"
	"duologue/context"
	"duologue/dual"
	"duologue/graph"
	"duologue/head"
	"duologue/proctree"
	"duologue/subtype"
)

// typing types the nodes of a body in order, until one of them has an error.
type typing struct {
	table *Table
	g     graph.Graph
	rules map[int]rule
	news  []graph.Ref // the types of the PNew nodes that are still to come
	loose bool
	// subtypes has the pairs that were found to be subtypes: bodies with many calls ask for the same ones again and again.
	subtypes map[[2]graph.Ref]bool
}

// rule types a node in a context, and then its Kids.
type rule func(t *typing, p *api.Proc, c []context.Entry)

// newTyping returns the typing of a body that has not begun.
func newTyping(table *Table, news []graph.Ref, loose bool) *typing {
	return &typing{table: table, g: table.g, rules: rules(), news: news, loose: loose, subtypes: map[[2]graph.Ref]bool{}}
}

// rules returns the rules of all Kinds.
func rules() map[int]rule {
	return map[int]rule{
		api.PStop:   (*typing).stop,
		api.PSend:   (*typing).send,
		api.PRecv:   (*typing).receive,
		api.PSelect: (*typing).choose,
		api.PBranch: (*typing).branch,
		api.PNew:    (*typing).open,
		api.PPar:    (*typing).split,
		api.PCall:   (*typing).call,
	}
}

// require leaves the recursion with an error, unless a condition holds.
func require(holds bool, err api.Errno) {
	if !holds {
		panic(err)
	}
}

// node types a node and all below it in a context.
func (t *typing) node(p *api.Proc, c []context.Entry) {
	t.rules[p.Kind](t, p, c)
}

func (t *typing) stop(_ *api.Proc, c []context.Entry) {
	require(len(context.Live(t.g, c)) == 0, api.ErrLinear)
}

func (t *typing) send(p *api.Proc, c []context.Entry) {
	r := t.channel(p, c, api.TSend)
	payload, rest := t.parts(r)
	t.value(p, payload, c)
	t.priority(p, r, c)
	_, left := context.Split(t.g, c, namesOf(p.Args))
	t.node(&p.Kids[0], context.Set(left, p.Chan, rest))
}

func (t *typing) receive(p *api.Proc, c []context.Entry) {
	r := t.channel(p, c, api.TRecv)
	payload, rest := t.parts(r)
	t.priority(p, r, c)
	c = context.Set(c, p.Chan, rest)
	t.node(&p.Kids[0], context.Set(c, p.Var, payload))
}

func (t *typing) choose(p *api.Proc, c []context.Entry) {
	r := t.channel(p, c, api.TSelect)
	rest, ok := head.Label(t.g, r, p.Labels[0])
	require(ok, api.ErrLabel)
	t.priority(p, r, c)
	t.node(&p.Kids[0], context.Set(c, p.Chan, rest))
}

func (t *typing) branch(p *api.Proc, c []context.Entry) {
	r := t.channel(p, c, api.TBranch)
	labels := slices.Sorted(slices.Values(p.Labels))
	require(slices.Equal(labels, head.Labels(t.g, r)), api.ErrLabel)
	t.priority(p, r, c)
	for i, label := range p.Labels {
		rest, _ := head.Label(t.g, r, label)
		t.node(&p.Kids[i], context.Set(c, p.Chan, rest))
	}
}

func (t *typing) open(p *api.Proc, c []context.Entry) {
	// Nodes are typed in order, and the types of the PNew nodes are in the same order.
	r := t.news[0]
	t.news = t.news[1:]
	c = context.Set(c, p.Chan, r)
	t.node(&p.Kids[0], context.Set(c, p.Var, dual.Of(t.g, r)))
}

func (t *typing) split(p *api.Proc, c []context.Entry) {
	var free [][]string
	users := map[string]int{} // the number of Kids in which a name is free
	for i := range p.Kids {
		free = append(free, proctree.Free(p.Kids[i]))
		for _, name := range free[i] {
			users[name]++
		}
	}
	for _, e := range context.Live(t.g, c) {
		require(users[e.Name] == 1, api.ErrLinear)
	}
	for i := range p.Kids {
		in, _ := context.Split(t.g, c, free[i])
		t.node(&p.Kids[i], in)
	}
}

func (t *typing) call(p *api.Proc, c []context.Entry) {
	l := newArguments(t, c)
	for i, param := range t.table.bodies[t.table.indices[p.Chan]].params {
		l.next(p.Args[i], param.R)
	}
	_, left := context.Split(t.g, c, namesOf(p.Args))
	require(len(context.Live(t.g, left)) == 0, api.ErrLinear)
}

// channel returns the type of the channel of a prefix, which has to be of a Kind.
func (t *typing) channel(p *api.Proc, c []context.Entry, kind int) graph.Ref {
	r, found := context.Find(c, p.Chan)
	require(found, api.ErrLinear)
	require(head.Kind(t.g, r) == kind, api.ErrType)
	return r
}

// parts returns the payload and the rest of a type.
func (t *typing) parts(r graph.Ref) (graph.Ref, graph.Ref) {
	payload, _ := head.Next(t.g, r, 0)
	rest, _ := head.Next(t.g, r, 1)
	return payload, rest
}

// value requires that the value of a PSend fits a payload.
func (t *typing) value(p *api.Proc, payload graph.Ref, c []context.Entry) {
	v := p.Args[0]
	r, found := context.Find(c, v.Name)
	require(found || v.Kind != api.VName, api.ErrLinear)
	if kind := head.Kind(t.g, payload); kind == api.TInt || kind == api.TBool {
		require(t.hasKind(v, r, kind), api.ErrType)
		return
	}
	require(found && v.Name != p.Chan && t.sub(r, payload), api.ErrType)
}

// priority requires that the channel of a prefix, which has the type r, comes before all others that are live.
func (t *typing) priority(p *api.Proc, r graph.Ref, c []context.Entry) {
	if t.loose {
		return
	}
	prio, _ := head.Prio(t.g, r)
	lowest, found := context.Lowest(t.g, c, p.Chan)
	require(!found || prio < lowest, api.ErrPriority)
}

// hasKind reports whether a value, which has the type r if it is a name, is of a Kind that is no action.
func (t *typing) hasKind(v api.Value, r graph.Ref, kind int) bool {
	switch v.Kind {
	case api.VInt:
		return kind == api.TInt
	case api.VBool:
		return kind == api.TBool
	}
	return head.Kind(t.g, r) == kind
}

// sub reports whether a is a subtype of b.
func (t *typing) sub(a, b graph.Ref) bool {
	// Raising both does not matter, so the pair is the same one wherever it is asked for again.
	pair := [2]graph.Ref{head.Raise(a, -b.Shift), head.Raise(b, -b.Shift)}
	if !t.subtypes[pair] {
		t.subtypes[pair] = subtype.Sub(t.g, pair[0], pair[1])
	}
	return t.subtypes[pair]
}

// namesOf returns the names among values.
func namesOf(l []api.Value) []string {
	var names []string
	for _, v := range l {
		if v.Kind == api.VName {
			names = append(names, v.Name)
		}
	}
	return names
}
