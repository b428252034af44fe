package check_test

import (
	"fmt"
	"maps"
	"slices"
	"testing"

	"duologue/api"
	"duologue/check"
	"duologue/proctree"
	"duologue/scope"
	"duologue/show"
	"duologue/typetree"
)

// The functions of this file find the results in another way than the package: types are trees that layer 2 unfolds, not
// graphs; the conditions are those of the chapter, sentence by sentence; and derivations are searched for among all splits
// of contexts and all shifts of calls.

// known is a type as a tree, or the dual of one.
type known struct {
	t      api.Type
	isDual bool
}

func isAction(kind int) bool {
	return kind == api.TSend || kind == api.TRecv || kind == api.TSelect || kind == api.TBranch
}

// head is the first node of the unfolded type, with its Kind in the dual.
func (k known) head() api.Type {
	t := k.t
	if t.Kind == api.TRec {
		t = typetree.Unfold(t)
	}
	if k.isDual {
		t.Kind = map[int]int{api.TEnd: api.TEnd, api.TSend: api.TRecv, api.TRecv: api.TSend, api.TSelect: api.TBranch, api.TBranch: api.TSelect}[t.Kind]
	}
	return t
}

func (k known) live() bool {
	return isAction(k.head().Kind)
}

func (k known) payload() known {
	return known{k.head().Kids[0], false}
}

// rest is the rest with a label, or the second one of a TSend and a TRecv.
func (k known) rest(label string) known {
	t := k.head()
	if t.Kind == api.TSend || t.Kind == api.TRecv {
		return known{t.Kids[1], k.isDual}
	}
	return known{t.Kids[slices.Index(t.Labels, label)], k.isDual}
}

func (k known) raised(by int) known {
	return known{typetree.Raise(k.t, by), k.isDual}
}

// isSub reports whether a is a subtype of b, if the pairs that were seen already are related.
func isSub(a, b known, seen map[string]bool) bool {
	x, y := a.head(), b.head()
	if x.Kind != y.Kind || x.Prio != y.Prio {
		return false
	}
	// Pairs that differ in priorities only are the same, so that there are not more and more of them.
	pair := fmt.Sprint(show.Type(a.raised(-x.Prio).t), a.isDual, show.Type(b.raised(-x.Prio).t), b.isDual)
	if seen[pair] {
		return true
	}
	seen[pair] = true
	few, many := y.Labels, x.Labels
	switch x.Kind {
	case api.TInt, api.TBool, api.TEnd:
		return true
	case api.TSend:
		return isSub(b.payload(), a.payload(), seen) && isSub(a.rest(""), b.rest(""), seen)
	case api.TRecv:
		return isSub(a.payload(), b.payload(), seen) && isSub(a.rest(""), b.rest(""), seen)
	case api.TBranch:
		few, many = many, few
	}
	return !slices.ContainsFunc(few, func(s string) bool { return !slices.Contains(many, s) || !isSub(a.rest(s), b.rest(s), seen) })
}

// names are the types of the names in a context.
type names map[string]known

func (c names) with(name string, k known) names {
	c = maps.Clone(c)
	c[name] = k
	return c
}

// without is the context without the live names of a list.
func (c names) without(l ...string) names {
	c = maps.Clone(c)
	maps.DeleteFunc(c, func(name string, k known) bool { return k.live() && slices.Contains(l, name) })
	return c
}

// live are the names that are live, in order.
func (c names) live() []string {
	var l []string
	for _, name := range slices.Sorted(maps.Keys(c)) {
		if c[name].live() {
			l = append(l, name)
		}
	}
	return l
}

// calculus has the definitions of a program, and whether priorities do not matter.
type calculus struct {
	defs  []api.Def
	loose bool
}

// valueError is the error of the value v that is sent over c for the payload u.
func valueError(v api.Value, channel string, u known, c names) api.Errno {
	k, isIn := c[v.Name]
	isName := v.Kind == api.VName
	kind := u.head().Kind
	switch {
	case isName && !isIn:
		return linear
	case kind == api.TInt && !(v.Kind == api.VInt || isName && k.head().Kind == api.TInt):
		return badType
	case kind == api.TBool && !(v.Kind == api.VBool || isName && k.head().Kind == api.TBool):
		return badType
	case kind == api.TInt || kind == api.TBool:
		return ok
	case !isName || v.Name == channel || !typetree.Session(k.t) || !isSub(k, u, map[string]bool{}):
		return badType
	}
	return ok
}

// prefixError is the error of a prefix, without those of its Kids.
func (f calculus) prefixError(p api.Proc, c names) api.Errno {
	k, isIn := c[p.Chan]
	if !isIn {
		return linear
	}
	t := k.head()
	if t.Kind != map[int]int{api.PSend: api.TSend, api.PRecv: api.TRecv, api.PSelect: api.TSelect, api.PBranch: api.TBranch}[p.Kind] {
		return badType
	}
	if p.Kind == api.PSend {
		if err := valueError(p.Args[0], p.Chan, k.payload(), c); err != ok {
			return err
		}
	}
	if p.Kind == api.PSelect && !slices.Contains(t.Labels, p.Labels[0]) {
		return badLabel
	}
	if p.Kind == api.PBranch && !slices.Equal(slices.Sorted(slices.Values(t.Labels)), slices.Sorted(slices.Values(p.Labels))) {
		return badLabel
	}
	for _, name := range c.live() {
		if name != p.Chan && c[name].head().Prio <= t.Prio && !f.loose {
			return badPrio
		}
	}
	return ok
}

// below are the contexts of the Kids of a node without an error, but for a PPar.
func below(p api.Proc, c names) []names {
	var l []names
	for i := range p.Kids {
		switch p.Kind {
		case api.PSend:
			l = append(l, c.without(argNames(p)...).with(p.Chan, c[p.Chan].rest("")))
		case api.PRecv:
			l = append(l, c.with(p.Chan, c[p.Chan].rest("")).with(p.Var, c[p.Chan].payload()))
		case api.PSelect, api.PBranch:
			l = append(l, c.with(p.Chan, c[p.Chan].rest(p.Labels[i])))
		case api.PNew:
			l = append(l, c.with(p.Chan, known{p.T, false}).with(p.Var, known{p.T, true}))
		}
	}
	return l
}

// argNames are the names among the Args.
func argNames(p api.Proc) []string {
	var l []string
	for _, v := range p.Args {
		if v.Kind == api.VName {
			l = append(l, v.Name)
		}
	}
	return l
}

// shift is the number for which the first argument of a call asks whose parameter begins with an action.
func shift(params []api.Param, args []api.Value, c names) int {
	for i, q := range params {
		if wanted := (known{q.T, false}).head(); isAction(wanted.Kind) {
			return c[args[i].Name].head().Prio - wanted.Prio
		}
	}
	return 0
}

// argError is the error of the argument with an index, where parameters are raised by the number that k returns.
func argError(params []api.Param, args []api.Value, i int, c names, k func() int) api.Errno {
	v, p := args[i], known{params[i].T, false}
	arg, isIn := c[v.Name]
	isName := v.Kind == api.VName
	kind := p.head().Kind
	switch {
	case isName && !isIn:
		return linear
	case kind == api.TInt && v.Kind == api.VInt || kind == api.TBool && v.Kind == api.VBool:
		return ok
	case !isAction(kind) && !(isName && arg.head().Kind == kind):
		return badType
	case !isAction(kind):
		return ok
	case !isName || !arg.live():
		return badType
	case slices.Contains(args[:i], v):
		return linear
	case !isSub(arg, p.raised(k()), map[string]bool{}):
		return badType
	}
	return ok
}

// callError is the error of a call, where parameters are raised by the number that k returns.
func (f calculus) callError(p api.Proc, c names, k func() int) api.Errno {
	params := f.params(p.Chan)
	for i := range p.Args {
		if err := argError(params, p.Args, i, c, k); err != ok {
			return err
		}
	}
	if len(c.without(argNames(p)...).live()) > 0 {
		return linear
	}
	return ok
}

func (f calculus) params(name string) []api.Param {
	return f.defs[slices.IndexFunc(f.defs, func(d api.Def) bool { return d.Name == name })].Params
}

// parts are the contexts of the Kids of a PPar, and its error.
func parts(p api.Proc, c names) ([]names, api.Errno) {
	var l []names
	for _, name := range c.live() {
		n := 0
		for _, kid := range p.Kids {
			if slices.Contains(proctree.Free(kid), name) {
				n++
			}
		}
		if n != 1 {
			return nil, linear
		}
	}
	for _, kid := range p.Kids {
		free := proctree.Free(kid)
		other := slices.DeleteFunc(c.live(), func(name string) bool { return slices.Contains(free, name) })
		l = append(l, c.without(other...))
	}
	return l, ok
}

// errorOf is the error of a process in a context.
func (f calculus) errorOf(p api.Proc, c names) api.Errno {
	err, contexts := api.OK, below(api.Proc{}, c)
	switch {
	case p.Kind == api.PStop && len(c.live()) > 0:
		err = linear
	case proctree.Prefix(p):
		err = f.prefixError(p, c)
	case p.Kind == api.PCall:
		err = f.callError(p, c, func() int { return shift(f.params(p.Chan), p.Args, c) })
	case p.Kind == api.PPar:
		contexts, err = parts(p, c)
	}
	if err != ok {
		return err
	}
	if p.Kind != api.PPar {
		contexts = below(p, c)
	}
	for i, kid := range p.Kids {
		if err := f.errorOf(kid, contexts[i]); err != ok {
			return err
		}
	}
	return ok
}

// most is not less than the shift for which any argument of a call can ask.
func (f calculus) most(p api.Proc, c names) int {
	most := 0
	for i, q := range f.params(p.Chan) {
		if k, isIn := c[p.Args[i].Name]; isIn {
			most = max(most, k.head().Prio, (known{q.T, false}).head().Prio)
		}
	}
	return most
}

// derives reports whether a process has a derivation in a context.
func (f calculus) derives(p api.Proc, c names) bool {
	switch {
	case p.Kind == api.PStop:
		return len(c.live()) == 0
	case p.Kind == api.PCall:
		most := f.most(p, c)
		for k := -most - 1; k <= most+1; k++ {
			if f.callError(p, c, func() int { return k }) == ok {
				return true
			}
		}
		return false
	case p.Kind == api.PPar:
		return f.derivesSplit(p.Kids, c)
	case proctree.Prefix(p) && f.prefixError(p, c) != ok:
		return false
	}
	for i, context := range below(p, c) {
		if !f.derives(p.Kids[i], context) {
			return false
		}
	}
	return true
}

// derivesSplit reports whether the live names of a context can be split between processes that have derivations then.
func (f calculus) derivesSplit(l []api.Proc, c names) bool {
	if len(l) == 1 {
		return f.derives(l[0], c)
	}
	live := c.live()
	for set := range 1 << len(live) {
		var own, others []string
		for i, name := range live {
			if set>>i%2 == 1 {
				own = append(own, name)
			} else {
				others = append(others, name)
			}
		}
		if f.derives(l[0], c.without(others...)) && f.derivesSplit(l[1:], c.without(own...)) {
			return true
		}
	}
	return false
}

// start is the context of the parameters of a definition.
func start(d api.Def) names {
	c := names{}
	for _, q := range d.Params {
		c[q.Name] = known{q.T, false}
	}
	return c
}

// counts has the numbers of bodies by their errors, with and without priorities.
type counts map[[2]api.Errno]int

// all are the bodies of each program.
func all(int) bool { return true }

// wantLikeModel checks the results for some bodies of a program without a fault.
func wantLikeModel(t *testing.T, p api.Program, some func(i int) bool, n counts) {
	t.Helper()
	if fault := scope.Check(p); fault.Err != ok {
		t.Fatalf("%s: not without a fault: %v", show.Program(p), fault)
	}
	table := check.Prepare(p)
	for i, d := range append(slices.Clip(p.Defs), api.Def{Body: p.Main}) {
		if !some(i) {
			continue
		}
		strict, loose := calculus{p.Defs, false}, calculus{p.Defs, true}
		wantErr, wantLoose := strict.errorOf(d.Body, start(d)), loose.errorOf(d.Body, start(d))
		err, looseErr := table.Body(i), table.Loose(i)
		if err != wantErr || looseErr != wantLoose {
			t.Errorf("%s: %s: got %d and %d, want %d and %d", show.Program(p), show.Process(d.Body), err, looseErr, wantErr, wantLoose)
		}
		if (err == ok) != strict.derives(d.Body, start(d)) || (looseErr == ok) != loose.derives(d.Body, start(d)) {
			t.Errorf("%s: %s: got %d and %d, and the derivations differ", show.Program(p), show.Process(d.Body), err, looseErr)
		}
		if looseErr == badPrio || err == ok && looseErr != ok || err != badPrio && err != looseErr {
			t.Errorf("%s: %s: got %d and %d", show.Program(p), show.Process(d.Body), err, looseErr)
		}
		n[[2]api.Errno{err, looseErr}]++
	}
	if t.Failed() {
		t.FailNow()
	}
}

// wantEach checks that there are some bodies with each pair of errors.
func (n counts) wantEach(t *testing.T, least int) {
	t.Helper()
	for _, pair := range [][2]api.Errno{{ok, ok}, {badType, badType}, {badLabel, badLabel}, {linear, linear}, {badPrio, ok}, {badPrio, badType}, {badPrio, linear}} {
		if n[pair] < least {
			t.Errorf("only %d bodies with the errors %v", n[pair], pair)
		}
	}
	t.Log(n)
}

// over are the texts of processes with one node more, or some nodes more, than those of a list; their names have a number.
func over(l, r []string, number int) []string {
	var texts []string
	add := func(format string, args ...any) {
		texts = append(texts, numbered(fmt.Sprintf(format, args...), number))
	}
	for _, s := range l {
		for _, prefix := range []string{"a!<1>.%s", "b!<true>.%s", "a!<b>.%s", "b!<a>.%s", "a?(x#).%s", "b?(x#).%s", "a.l.%s", "b.m.%s", "b?(x#).x#!<3>.%s", "a?(x#).b!<x#>.%s", "new (x#, y#: !3 int.end) %s", "new (x#, y#: end) a!<x#>.%s"} {
			add(prefix, s)
		}
		for _, q := range r {
			for _, pair := range []string{"(%s | %s)", "a&{l: %s, m: %s}", "b&{m: %s, l: %s}", "new (x#, y#: !3 int.end) (x#!<1>.%s | y#?(z#).%s)"} {
				add(pair, s, q)
			}
		}
	}
	return texts
}

// callees are definitions for calls in small programs.
const callees = `
def S(a: !1 int.end) = a!<1>.stop;
def R(a: rec t.+1 {l: t+1}) = a.l.R<a>;
def T(a: !1 int.end, b: ?2 int.end) = a!<1>.b?(x).stop;
def N(n: int, e: end) = stop;`

func TestSmallPrograms(t *testing.T) {
	leaves := []string{"stop", "S<a>", "S<b>", "R<a>", "T<a, b>", "T<b, a>", "N<1, z>", "N<a, b>"}
	one := over(leaves, leaves, 1)
	two := append(over(one, leaves[:2], 2), over(leaves[2:4], one, 2)...)
	types := []string{"int", "end", "!1 int.end", "?2 int.end", "+2 {l: end, m: end}", "&1 {l: end, m: end}", "!1 (?2 int.end).end", "!1 int.!2 int.end", "?2 (!4 int.end).end", "rec t.+1 {l: t+1, m: end}", "rec t.&1 {l: t, m: t+1}", "!1 (!2 int.end).end", "+3 {m: end}", "&2 {l: !3 int.end}"}
	n := counts{}
	for i, a := range types {
		for j, b := range types {
			params := "(z: &{l: end}, a: " + a + ", b: " + b + ") = z&{l: "
			text := callees
			for k, body := range append(slices.Clip(one), two...) {
				// Each pair of types has some of the processes, which others have not.
				if k < len(one) && (k+i+j)%4 == 0 || (k+7*i+j)%83 == 0 {
					text += fmt.Sprintf("def X%d%s%s};\n", k, params, body)
				}
				if len(text) > 40000 || k == len(one)+len(two)-1 {
					wantLikeModel(t, program(t, text+"main = stop;"), all, n)
					text = callees
				}
			}
		}
	}
	n.wantEach(t, 10)
}
