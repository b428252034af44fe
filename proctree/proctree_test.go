package proctree_test

import (
	"fmt"
	"slices"
	"strings"
	"testing"

	"duologue/api"
	"duologue/proctree"
)

var (
	stop  = api.Proc{Kind: api.PStop}
	tint  = api.Type{Kind: api.TInt}
	tbool = api.Type{Kind: api.TBool}
	tend  = api.Type{Kind: api.TEnd}
)

func tsend(prio int, kids ...api.Type) api.Type {
	return api.Type{Kind: api.TSend, Prio: prio, Kids: kids}
}

func trec(name string, body api.Type) api.Type {
	return api.Type{Kind: api.TRec, Name: name, Kids: []api.Type{body}}
}

func tvar(name string) api.Type {
	return api.Type{Kind: api.TVar, Name: name}
}

// name, num and boolean are values.
func name(s string) api.Value {
	return api.Value{Kind: api.VName, Name: s}
}

func num(n int64) api.Value {
	return api.Value{Kind: api.VInt, N: n}
}

func boolean(n int64) api.Value {
	return api.Value{Kind: api.VBool, N: n}
}

func send(c string, v api.Value, kids ...api.Proc) api.Proc {
	return api.Proc{Kind: api.PSend, Chan: c, Args: []api.Value{v}, Kids: kids}
}

func recv(c, x string, kids ...api.Proc) api.Proc {
	return api.Proc{Kind: api.PRecv, Chan: c, Var: x, Kids: kids}
}

// sel and branch take their labels as one text with blanks.
func sel(c, labels string, kids ...api.Proc) api.Proc {
	return api.Proc{Kind: api.PSelect, Chan: c, Labels: strings.Fields(labels), Kids: kids}
}

func branch(c, labels string, kids ...api.Proc) api.Proc {
	return api.Proc{Kind: api.PBranch, Chan: c, Labels: strings.Fields(labels), Kids: kids}
}

func restrict(c, d string, t api.Type, kids ...api.Proc) api.Proc {
	return api.Proc{Kind: api.PNew, Chan: c, Var: d, T: t, Kids: kids}
}

func par(kids ...api.Proc) api.Proc {
	return api.Proc{Kind: api.PPar, Kids: kids}
}

func call(c string, args ...api.Value) api.Proc {
	return api.Proc{Kind: api.PCall, Chan: c, Args: args}
}

// typeText shows all fields of a type, right or not.
func typeText(t api.Type) string {
	var kids []string
	for _, k := range t.Kids {
		kids = append(kids, typeText(k))
	}
	return fmt.Sprintf("%d,%d,%q,%d,%q[%s]", t.Kind, t.Prio, t.Name, t.Shift, t.Labels, strings.Join(kids, " "))
}

// text shows all fields of a process, well-formed or not.
func text(p api.Proc) string {
	var kids []string
	for _, k := range p.Kids {
		kids = append(kids, text(k))
	}
	return fmt.Sprintf("%d,%q,%q,%q,%v,%s[%s]", p.Kind, p.Chan, p.Var, p.Labels, p.Args, typeText(p.T), strings.Join(kids, " "))
}

func short(p api.Proc) string {
	s := text(p)
	if len(s) > 200 {
		return s[:200] + ".."
	}
	return s
}

// ofEachKind returns well-formed processes of all Kinds, more than one of some.
func ofEachKind() []api.Proc {
	return []api.Proc{
		stop, send("a", name("b"), stop), send("a", num(-3), stop), recv("a", "x", stop), sel("a", "go", stop),
		branch("a", "go", stop), branch("a", "c b a", stop, sel("b", "c", stop), stop), restrict("a", "b", tend, stop),
		restrict("a", "b", trec("t", tsend(3, tint, tvar("t"))), recv("a", "c", stop)),
		par(stop, stop), par(stop, send("a", num(1), stop), call("X")), call("X"), call("X", name("a")), call("X", num(0), name("b"), boolean(1)),
	}
}

// chain returns a well-formed process of the given depth, with a node a level.
func chain(depth int) api.Proc {
	p := stop
	for range depth - 1 {
		p = recv("a", "x", p)
	}
	return p
}

// wide returns a well-formed process with the given number of nodes (3 or more), and a depth of 2.
func wide(size int) api.Proc {
	return par(slices.Repeat([]api.Proc{stop}, size-1)...)
}

// wideType returns a right type with the given number of nodes (2 or more), and a depth of 2.
func wideType(size int) api.Type {
	t := api.Type{Kind: api.TBranch}
	for i := range size - 1 {
		t.Labels = append(t.Labels, fmt.Sprintf("l%d", i))
		t.Kids = append(t.Kids, tend)
	}
	return t
}

// longType returns a right type of the given depth.
func longType(depth int) api.Type {
	t := tend
	for range depth - 1 {
		t = trec("t", t)
	}
	return t
}

func wantRight(t *testing.T, want api.Errno, l ...api.Proc) {
	t.Helper()
	for _, p := range l {
		if got := proctree.Right(p); got != want {
			t.Errorf("%s: got %d, want %d", short(p), got, want)
		}
	}
}

// wantShape wants ErrShape for processes, and also where they stand deep in another process, first or last.
func wantShape(t *testing.T, l ...api.Proc) {
	t.Helper()
	for _, p := range l {
		wantRight(t, api.ErrShape, p, send("a", num(1), p), recv("a", "x", p), sel("a", "go", p), branch("a", "b c", stop, p), branch("a", "b c", p, stop), restrict("a", "b", tend, p))
		deep := p
		for range 40 {
			deep = recv("a", "x", branch("b", "l m", stop, deep))
		}
		wantRight(t, api.ErrShape, par(deep, stop), par(stop, chain(50), deep))
	}
}

// P3.1: processes without an error.

func TestProcessesOfEveryKindAreRight(t *testing.T) {
	l := ofEachKind()
	wantRight(t, api.OK, l...)
	for _, p := range l {
		wantRight(t, api.OK, send("c", boolean(0), p), recv("c", "c", p), sel("c", "c", p), branch("c", "l m", p, p), restrict("c", "d", tsend(1, tint, tend), p), par(recv("c", "x", p), stop))
	}
}

func TestValuesThatAreRight(t *testing.T) {
	values := []api.Value{name("a"), name("_"), name("X9_"), name("Stop"), num(0), num(1), num(2), num(-1), num(1<<63 - 1), num(-1 << 63), boolean(0), boolean(1)}
	for _, v := range values {
		wantRight(t, api.OK, send("a", v, stop), call("X", v), call("X", v, v), call("X", num(1), v, name("b")))
	}
	wantRight(t, api.OK, call("X", slices.Repeat(values, 1000)...))
}

func TestNamesThatMayBeEqual(t *testing.T) {
	wantRight(t, api.OK, recv("a", "a", stop), send("a", name("a"), stop), sel("a", "a", stop), branch("a", "a b", stop, stop), call("X", name("X"), name("a"), name("a")),
		restrict("a", "b", tend, restrict("a", "b", tend, stop)), restrict("a", "b", tend, restrict("b", "a", tend, stop)), recv("a", "x", recv("a", "x", stop)))
}

func TestTypesOfNewThatAreRight(t *testing.T) {
	for _, a := range []api.Type{tend, tsend(0, tint, tend), tsend(1000000, tend, tend), trec("t", tend), wideType(10000), longType(100), {Kind: api.TRecv, Kids: []api.Type{tbool, tend}},
		{Kind: api.TSelect, Labels: []string{"a"}, Kids: []api.Type{tend}}} {
		wantRight(t, api.OK, restrict("a", "b", a, stop))
	}
}

func TestEmptyListsAreAsNil(t *testing.T) {
	empty := func(p api.Proc) api.Proc {
		if p.Labels == nil {
			p.Labels = []string{}
		}
		if p.Args == nil {
			p.Args = []api.Value{}
		}
		if p.Kids == nil {
			p.Kids = []api.Proc{}
		}
		if p.T.Kids == nil {
			p.T.Labels, p.T.Kids = []string{}, []api.Type{}
		}
		return p
	}
	for _, p := range ofEachKind() {
		q := empty(p)
		wantRight(t, api.OK, q, recv("a", "x", q))
		if !proctree.Same(p, q) || !proctree.Same(q, p) {
			t.Errorf("%s: empty lists are not the same as nil", text(p))
		}
	}
}

func TestArgsAreNotLimited(t *testing.T) {
	wantRight(t, api.OK, call("X", slices.Repeat([]api.Value{num(1)}, 20000)...))
}

// P3.1: ErrShape.

// withOtherFields returns the process with one field that its Kind does not have, for each such field.
func withOtherFields(p api.Proc) []api.Proc {
	var l []api.Proc
	add := func(change func(*api.Proc)) {
		q := p
		change(&q)
		l = append(l, q)
	}
	k := p.Kind
	if k == api.PStop || k == api.PPar {
		add(func(q *api.Proc) { q.Chan = "a" })
		add(func(q *api.Proc) { q.Chan = "int" })
	}
	if k != api.PRecv && k != api.PNew {
		add(func(q *api.Proc) { q.Var = "x" })
		add(func(q *api.Proc) { q.Var = "0" })
	}
	if k != api.PSelect && k != api.PBranch {
		add(func(q *api.Proc) { q.Labels = []string{"a"} })
		add(func(q *api.Proc) { q.Labels = []string{""} })
		add(func(q *api.Proc) { q.Labels = []string{"a", "b"} })
	}
	if k != api.PSend && k != api.PCall {
		add(func(q *api.Proc) { q.Args = []api.Value{num(1)} })
		add(func(q *api.Proc) { q.Args = []api.Value{{}} })
		add(func(q *api.Proc) { q.Args = []api.Value{name("a"), name("b")} })
	}
	if k != api.PNew {
		for _, a := range []api.Type{tint, tend, tsend(1, tint, tend), {Prio: 1}, {Prio: -1}, {Name: "t"}, {Shift: 1}, {Labels: []string{""}}, {Kids: []api.Type{{}}}, {Kind: -1}} {
			add(func(q *api.Proc) { q.T = a })
		}
	}
	if k == api.PStop || k == api.PCall {
		add(func(q *api.Proc) { q.Kids = []api.Proc{stop} })
		add(func(q *api.Proc) { q.Kids = []api.Proc{stop, stop} })
		add(func(q *api.Proc) { q.Kids = []api.Proc{{}} })
	}
	return l
}

func TestFieldsOfOtherKinds(t *testing.T) {
	for _, p := range ofEachKind() {
		wantShape(t, withOtherFields(p)...)
	}
}

func TestNamesThatAreNone(t *testing.T) {
	for _, s := range []string{"", "0", "9a", "a b", " a", "a ", "a!", "0+", "0-", "def", "main", "stop", "new", "int", "bool", "end", "rec", "true", "false", "\u00e9", "a\x00"} {
		wantShape(t, send(s, num(1), stop), recv(s, "x", stop), recv("a", s, stop), sel(s, "go", stop), branch(s, "go", stop), restrict(s, "b", tend, stop), restrict("a", s, tend, stop), call(s), call(s, num(1)),
			send("a", name(s), stop), call("X", name(s)), call("X", num(1), name(s)))
		one := api.Proc{Kind: api.PSelect, Chan: "a", Labels: []string{s}, Kids: []api.Proc{stop}}
		only := api.Proc{Kind: api.PBranch, Chan: "a", Labels: []string{s}, Kids: []api.Proc{stop}}
		last := api.Proc{Kind: api.PBranch, Chan: "a", Labels: []string{"a", s}, Kids: []api.Proc{stop, stop}}
		first := api.Proc{Kind: api.PBranch, Chan: "a", Labels: []string{s, "a"}, Kids: []api.Proc{stop, stop}}
		wantShape(t, one, only, last, first)
	}
}

func TestLabelsOfABranch(t *testing.T) {
	wantRight(t, api.OK, branch("a", "b a A _ a1 Int", stop, stop, stop, stop, stop, stop))
	wantShape(t, branch("a", ""), branch("a", "a a", stop, stop), branch("a", "a b a", stop, stop, stop), branch("a", "c b b", stop, stop, stop), branch("a", "x x y", stop, stop, stop))
}

func TestNumbersOfLabels(t *testing.T) {
	wantShape(t, sel("a", "", stop), sel("a", "b c", stop), sel("a", "b b", stop), sel("a", "b c", stop, stop), sel("a", ""), branch("a", "", stop), branch("a", "", stop, stop))
}

func TestNumbersOfArgs(t *testing.T) {
	none := send("a", num(1), stop)
	none.Args = nil
	two := send("a", num(1), stop)
	two.Args = []api.Value{num(1), num(2)}
	wantShape(t, none, two)
}

func TestNumbersOfKids(t *testing.T) {
	for n := range 4 {
		kids := slices.Repeat([]api.Proc{stop}, n)
		if n != 1 {
			wantShape(t, send("a", num(1), kids...), recv("a", "x", kids...), sel("a", "go", kids...), branch("a", "go", kids...), restrict("a", "b", tend, kids...))
		}
		if n != 2 {
			wantShape(t, branch("a", "b c", kids...))
		}
		if n < 2 {
			wantRight(t, api.ErrShape, par(kids...), recv("a", "x", par(kids...)))
		}
	}
	wantRight(t, api.ErrShape, par(), par(stop), par(send("a", num(1), stop)), par(par(stop, stop)))
}

func TestValuesThatAreNone(t *testing.T) {
	for _, v := range []api.Value{
		{}, {Name: "a"}, {N: 1}, {Kind: 4}, {Kind: 4, Name: "a"}, {Kind: 4, N: 1}, {Kind: -1}, {Kind: 1 << 62}, {Kind: 257, Name: "a"},
		{Kind: api.VName}, {Kind: api.VName, Name: "a", N: 1}, {Kind: api.VName, Name: "a", N: -1}, {Kind: api.VName, N: 1},
		{Kind: api.VInt, Name: "a"}, {Kind: api.VInt, Name: "a", N: 7}, {Kind: api.VInt, Name: " "},
		{Kind: api.VBool, N: 2}, {Kind: api.VBool, N: -1}, {Kind: api.VBool, N: 1 << 32}, {Kind: api.VBool, N: -1 << 63}, {Kind: api.VBool, Name: "a"}, {Kind: api.VBool, Name: "true", N: 1},
	} {
		wantShape(t, send("a", v, stop), call("X", v), call("X", v, num(1)), call("X", num(1), name("a"), v))
	}
}

func TestEndpointsOfANew(t *testing.T) {
	wantRight(t, api.OK, restrict("a", "A", tend, stop), restrict("a", "aa", tend, stop))
	wantShape(t, restrict("a", "a", tend, stop), restrict("_", "_", tsend(0, tint, tend), stop), restrict("", "", tend, stop))
}

func TestTypesOfNewThatAreNotRight(t *testing.T) {
	wantShape(t, restrict("a", "b", api.Type{}, stop), restrict("a", "b", tint, stop), restrict("a", "b", tbool, stop),
		restrict("a", "b", tvar("t"), stop), restrict("a", "b", trec("t", tvar("t")), stop), restrict("a", "b", trec("u", tsend(0, tint, tvar("t"))), stop), restrict("a", "b", tsend(-1, tint, tend), stop),
		restrict("a", "b", tsend(0, tint, tint), stop), restrict("a", "b", tsend(0, tint), stop), restrict("a", "b", api.Type{Kind: 10}, stop), restrict("a", "b", api.Type{Kind: api.TEnd, Prio: 1}, stop))
	// The error of the type itself is ErrLimit, and that of the process is not.
	wantShape(t, restrict("a", "b", longType(101), stop), restrict("a", "b", wideType(10001), stop), restrict("a", "b", longType(1000), stop))
}

func TestAParInAPar(t *testing.T) {
	two := par(stop, stop)
	wantRight(t, api.ErrShape, par(two, stop), par(stop, two), par(stop, two, stop), par(two, two), par(stop, api.Proc{Kind: api.PPar}), recv("a", "x", par(stop, two)))
	wantRight(t, api.OK, par(recv("a", "x", two), stop), par(stop, restrict("a", "b", tend, two)), branch("a", "b c", two, two), restrict("a", "b", tend, two))
}

func TestUnknownKinds(t *testing.T) {
	for _, k := range []int{0, -1, 9, 10, 256 + api.PStop, -1 << 63, 1<<63 - 1} {
		wantShape(t, api.Proc{Kind: k}, api.Proc{Kind: k, Chan: "a", Kids: []api.Proc{stop}}, api.Proc{Kind: k, Kids: []api.Proc{stop, stop}}, api.Proc{Kind: k, Chan: "X", Args: []api.Value{num(1)}})
	}
}

// P3.1: limits.

func TestDepthAtItsLimit(t *testing.T) {
	wantRight(t, api.OK, chain(99), chain(100))
	wantRight(t, api.ErrLimit, chain(101), chain(102), chain(1000))
	for _, above := range []func(api.Proc) api.Proc{
		func(p api.Proc) api.Proc { return send("a", num(1), p) },
		func(p api.Proc) api.Proc { return recv("a", "x", p) },
		func(p api.Proc) api.Proc { return sel("a", "go", p) },
		func(p api.Proc) api.Proc { return branch("a", "b c", stop, p) },
		func(p api.Proc) api.Proc { return branch("a", "b c", p, stop) },
		func(p api.Proc) api.Proc { return restrict("a", "b", tend, p) },
		func(p api.Proc) api.Proc { return par(p, stop) },
		func(p api.Proc) api.Proc { return par(stop, p) },
	} {
		wantRight(t, api.OK, above(chain(99)))
		wantRight(t, api.ErrLimit, above(chain(100)))
	}
}

func TestTypesDoNotCountForTheDepth(t *testing.T) {
	p := chain(98)
	wantRight(t, api.OK, restrict("a", "b", longType(100), restrict("c", "d", longType(100), p)))
	wantRight(t, api.ErrLimit, restrict("a", "b", tend, restrict("c", "d", tend, restrict("e", "f", tend, p))))
}

func TestNodesAtTheirLimit(t *testing.T) {
	wantRight(t, api.OK, wide(9999), wide(10000), branch("a", "b c", wide(5000), wide(4999)))
	wantRight(t, api.ErrLimit, wide(10001), wide(20000), branch("a", "b c", wide(5000), wide(5000)))
}

func TestTypesDoNotCountForTheNodes(t *testing.T) {
	p := wide(9998)
	wantRight(t, api.OK, restrict("a", "b", wideType(10000), restrict("a", "b", wideType(10000), p)))
	wantRight(t, api.ErrLimit, restrict("a", "b", tend, restrict("a", "b", tend, restrict("a", "b", tend, p))))
}

func TestTheLimitsComeBeforeOtherErrors(t *testing.T) {
	for _, bad := range []api.Proc{{}, {Kind: 9}, send("0", num(1), stop), send("a", api.Value{}, stop), recv("a", "", stop), branch("a", "b b", stop, stop), restrict("a", "a", tend, stop), restrict("a", "b", tint, stop), par(), call("int")} {
		first, last := wide(10000), wide(10000)
		first.Kids[0], last.Kids[9998] = bad, bad
		wantRight(t, api.ErrLimit, recv("a", "x", first), recv("a", "x", last), branch("a", "b c", bad, chain(100)), branch("a", "b c", chain(100), bad), api.Proc{Kids: []api.Proc{bad, chain(100)}})
		deep := bad
		for range 100 {
			deep = recv("a", "x", deep)
		}
		wantRight(t, api.ErrLimit, deep)
	}
	wantRight(t, api.ErrLimit, send("0", num(1), chain(100)), recv("a", "", chain(100)), api.Proc{Kids: []api.Proc{chain(100)}}, par(chain(100)), api.Proc{Kind: api.PCall, Chan: "X", Kids: []api.Proc{chain(100)}}, restrict("a", "b", longType(101), chain(100)))
	wantRight(t, api.ErrLimit, api.Proc{Kind: api.PStop, Kids: make([]api.Proc, 10000)})
	wantRight(t, api.ErrShape, api.Proc{Kind: api.PStop, Kids: make([]api.Proc, 9999)})
}
