package typetree_test

import (
	"fmt"
	"slices"
	"strings"
	"testing"

	"duologue/api"
	"duologue/typetree"
)

var (
	tint  = api.Type{Kind: api.TInt}
	tbool = api.Type{Kind: api.TBool}
	tend  = api.Type{Kind: api.TEnd}
)

func send(prio int, kids ...api.Type) api.Type {
	return api.Type{Kind: api.TSend, Prio: prio, Kids: kids}
}

func recv(prio int, kids ...api.Type) api.Type {
	return api.Type{Kind: api.TRecv, Prio: prio, Kids: kids}
}

// sel and branch take their labels as one text with blanks.
func sel(prio int, labels string, kids ...api.Type) api.Type {
	return api.Type{Kind: api.TSelect, Prio: prio, Labels: strings.Fields(labels), Kids: kids}
}

func branch(prio int, labels string, kids ...api.Type) api.Type {
	return api.Type{Kind: api.TBranch, Prio: prio, Labels: strings.Fields(labels), Kids: kids}
}

func rec(name string, kids ...api.Type) api.Type {
	return api.Type{Kind: api.TRec, Name: name, Kids: kids}
}

func tvar(name string, shift int) api.Type {
	return api.Type{Kind: api.TVar, Name: name, Shift: shift}
}

// text shows all fields of a type, right or not.
func text(t api.Type) string {
	var kids []string
	for _, k := range t.Kids {
		kids = append(kids, text(k))
	}
	return fmt.Sprintf("%d,%d,%q,%d,%q[%s]", t.Kind, t.Prio, t.Name, t.Shift, t.Labels, strings.Join(kids, " "))
}

func short(t api.Type) string {
	s := text(t)
	if len(s) > 200 {
		return s[:200] + ".."
	}
	return s
}

// chain returns a right type of the given depth (2 or more) with a node a level, and an int at each payload.
func chain(depth int) api.Type {
	t := tend
	for range depth - 1 {
		t = send(0, tint, t)
	}
	return t
}

// wide returns a right type with the given number of nodes, and a depth of 2.
func wide(size int) api.Type {
	t := api.Type{Kind: api.TBranch}
	for i := range size - 1 {
		t.Labels = append(t.Labels, fmt.Sprintf("l%d", i))
		t.Kids = append(t.Kids, tend)
	}
	return t
}

func wantRight(t *testing.T, want api.Errno, l ...api.Type) {
	t.Helper()
	for _, a := range l {
		if got := typetree.Right(a); got != want {
			t.Errorf("%s: got %d, want %d", short(a), got, want)
		}
	}
}

// P2.1: types without an error.

func TestTypesOfEveryKindAreRight(t *testing.T) {
	wantRight(t, api.OK, tint, tbool, tend,
		send(0, tint, tend), recv(0, tbool, tend), send(3, send(1, tint, tend), recv(2, tint, tend)),
		sel(0, "a", tend), sel(1, "a b", tend, send(2, tint, tend)),
		branch(0, "b a c", tend, tend, tend), branch(1, "go", sel(0, "go", tend)),
		rec("t", tend), rec("t", send(0, tint, tvar("t", 2))),
		rec("t", rec("u", branch(0, "a b", tvar("t", 1), tvar("u", 0)))))
}

func TestPayloadsAreOfAnyKind(t *testing.T) {
	rest := tend
	payloads := []api.Type{tint, tbool, tend, send(0, tint, tend), recv(0, tint, tend), sel(0, "a", tend), branch(0, "a", tend), rec("u", tend), rec("u", sel(0, "a", tvar("u", 0)))}
	for _, p := range payloads {
		wantRight(t, api.OK, p, send(0, p, rest), recv(0, p, rest), send(0, send(0, p, rest), rest))
	}
	wantRight(t, api.OK, rec("t", send(0, tvar("t", 0), tend)), rec("t", recv(0, tvar("t", 1), tvar("t", 2))))
}

func TestNumbersAtTheirBounds(t *testing.T) {
	for _, n := range []int{0, 1, api.MaxPrio - 1, api.MaxPrio} {
		wantRight(t, api.OK, send(n, tint, tend), recv(n, tint, tend), sel(n, "a", tend), branch(n, "a", tend), rec("t", sel(0, "a", tvar("t", n))))
	}
	for _, n := range []int{-1, -api.MaxPrio, api.MaxPrio + 1, -1 << 63, 1<<63 - 1} {
		wantRight(t, api.ErrShape, send(n, tint, tend), recv(n, tint, tend), sel(n, "a", tend), branch(n, "a", tend), rec("t", sel(0, "a", tvar("t", n))))
	}
}

func TestEmptyListsAreAsNil(t *testing.T) {
	empty := api.Type{Kind: api.TEnd, Labels: []string{}, Kids: []api.Type{}}
	a := rec("t", sel(0, "a b", empty, api.Type{Kind: api.TVar, Name: "t", Kids: []api.Type{}, Labels: []string{}}))
	a.Labels = []string{}
	wantRight(t, api.OK, empty, a)
	if !typetree.Same(empty, tend) || !typetree.Same(tend, empty) {
		t.Error("an empty list is not the same as nil")
	}
}

// P2.1: ErrShape.

// withOtherFields returns the type with one field that its Kind does not have, for each such field.
func withOtherFields(a api.Type) []api.Type {
	var l []api.Type
	add := func(change func(*api.Type)) {
		b := a
		change(&b)
		l = append(l, b)
	}
	k := a.Kind
	if k < api.TSend || k > api.TBranch {
		add(func(b *api.Type) { b.Prio = 1 })
		add(func(b *api.Type) { b.Prio = -1 })
	}
	if k != api.TVar {
		add(func(b *api.Type) { b.Shift = 1 })
		add(func(b *api.Type) { b.Shift = -1 })
	}
	if k != api.TVar && k != api.TRec {
		add(func(b *api.Type) { b.Name = "t" })
		add(func(b *api.Type) { b.Name = "int" })
	}
	if k != api.TSelect && k != api.TBranch {
		add(func(b *api.Type) { b.Labels = []string{"a"} })
		add(func(b *api.Type) { b.Labels = []string{""} })
		add(func(b *api.Type) { b.Labels = []string{"a", "b"} })
	}
	add(func(b *api.Type) { b.Kids = append(slices.Clone(b.Kids), tend) })
	return l
}

func TestFieldsOfOtherKinds(t *testing.T) {
	kinds := []api.Type{tint, tbool, tend, send(0, tint, tend), recv(0, tint, tend), sel(0, "a", tend), branch(0, "a b", tend, tend), rec("t", tend), tvar("t", 0)}
	for _, a := range kinds {
		around := func(a api.Type) api.Type { return rec("t", send(0, a, tend)) }
		wantRight(t, api.OK, around(a))
		for _, b := range withOtherFields(a) {
			wantRight(t, api.ErrShape, b, around(b))
		}
	}
}

func TestUnknownKinds(t *testing.T) {
	for _, k := range []int{0, -1, 10, 11, 256 + api.TEnd, -1 << 63, 1<<63 - 1} {
		a := api.Type{Kind: k}
		wantRight(t, api.ErrShape, a, send(0, a, tend), send(0, tint, a), rec("t", a), sel(0, "a", a))
		wantRight(t, api.ErrShape, api.Type{Kind: k, Kids: []api.Type{tint, tend}}, api.Type{Kind: k, Name: "t"})
	}
}

func TestMissingKids(t *testing.T) {
	wantRight(t, api.ErrShape, send(0), send(0, tint), recv(0), recv(0, tend), send(0, tint, tend, tend),
		rec("t"), rec("t", tend, tend), sel(0, ""), branch(0, ""), sel(0, "a"), branch(0, "a"), sel(0, "a b", tend), branch(0, "a b", tend), sel(0, "", tend), branch(0, "", tend), sel(0, "a", tend, tend), branch(0, "a", tend, tend))
}

func TestLabels(t *testing.T) {
	wantRight(t, api.OK, sel(0, "a A _ a1 Int", tend, tend, tend, tend, tend), branch(0, "b a", tend, tend))
	wantRight(t, api.ErrShape, sel(0, "a a", tend, tend), branch(0, "a b a", tend, tend, tend), branch(0, "c b b", tend, tend, tend), sel(0, "x x y", tend, tend, tend))
	for _, s := range []string{"", "0", "1a", "a b", " a", "a!", "int", "rec", "end", "true", "main", "\u00e9", "a\x00"} {
		one := api.Type{Kind: api.TSelect, Labels: []string{s}, Kids: []api.Type{tend}}
		last := api.Type{Kind: api.TBranch, Labels: []string{"a", s}, Kids: []api.Type{tend, tend}}
		wantRight(t, api.ErrShape, one, last)
	}
}

func TestNamesOfRecAndVar(t *testing.T) {
	for _, s := range []string{"t", "_", "T9_", "Rec", strings.Repeat("n", 1000)} {
		wantRight(t, api.OK, rec(s, sel(0, "a", tvar(s, 0))))
	}
	for _, s := range []string{"", "0", "9t", "t u", "t ", "t-1", "bool", "stop", "def", "\u00e9"} {
		wantRight(t, api.ErrShape, rec(s, tend), tvar(s, 0), rec("t", sel(0, "a", tvar(s, 0))), rec(s, sel(0, "a", tvar(s, 0))))
	}
}

func TestKidsThatMustBeSessionTypes(t *testing.T) {
	for _, a := range []api.Type{tint, tbool} {
		wantRight(t, api.ErrShape, send(0, tint, a), recv(0, tint, a), sel(0, "a", a), sel(0, "a b", tend, a), branch(0, "a", a), branch(0, "a b", a, tend), rec("t", a),
			send(0, rec("t", a), tend), rec("t", rec("u", a)), send(0, send(0, tint, a), tend))
	}
}

// P2.1: variables.

func TestVariablesThatAreNotBound(t *testing.T) {
	wantRight(t, api.ErrName, tvar("t", 0), tvar("t", api.MaxPrio), rec("u", sel(0, "a", tvar("t", 0))), rec("u", tvar("t", 0)), send(0, tvar("t", 0), tend), send(0, tint, tvar("t", 0)),
		send(0, rec("t", sel(0, "a", tvar("t", 0))), tvar("t", 0)),
		sel(0, "a b", rec("t", sel(0, "a", tvar("t", 0))), tvar("t", 0)),
		rec("t", sel(0, "a", tvar("T", 0))), rec("t", sel(0, "a", tvar("tt", 0))))
}

func TestTypesThatAreNotContractive(t *testing.T) {
	wantRight(t, api.ErrShape, rec("t", tvar("t", 0)), rec("t", tvar("t", 1)), rec("t", rec("u", tvar("u", 0))), rec("t", rec("u", tvar("t", 0))), rec("t", sel(0, "a", rec("u", tvar("u", 0)))),
		rec("t", send(0, rec("u", tvar("u", 1)), tend)))
	wantRight(t, api.OK, rec("t", sel(0, "a", rec("u", tvar("t", 0)))), rec("t", rec("u", rec("v", sel(0, "a b c", tvar("t", 0), tvar("u", 0), tvar("v", 0))))))
	for _, a := range []api.Type{send(0, tint, tvar("t", 0)), send(0, tvar("t", 0), tend), recv(0, tint, tvar("t", 0)), recv(0, tvar("t", 0), tend), sel(0, "a", tvar("t", 0)), branch(0, "a", tvar("t", 0))} {
		wantRight(t, api.OK, rec("t", a), rec("t", rec("u", a)))
	}
}

func TestTheInnermostOfTwoNamesBinds(t *testing.T) {
	wantRight(t, api.OK, rec("t", rec("t", sel(0, "a", tvar("t", 0)))), rec("t", sel(0, "a", rec("t", sel(0, "a", tvar("t", 0))))))
	wantRight(t, api.ErrShape, rec("t", sel(0, "a", rec("t", tvar("t", 0)))), rec("t", sel(0, "a", rec("t", rec("u", tvar("t", 0))))))
	wantRight(t, api.OK, rec("t", sel(0, "a", rec("u", rec("u", tvar("t", 0))))))
	wantRight(t, api.OK, rec("t", sel(0, "a b", rec("t", tend), tvar("t", 0))), rec("t", send(0, rec("t", tend), tvar("t", 0))))
}

// P2.1: the first node with an error.

func TestTheFirstErrorIsThatOfTheFirstNode(t *testing.T) {
	free, bad, loop := tvar("x", 0), api.Type{}, rec("u", tvar("u", 0))
	wantRight(t, api.ErrName, sel(0, "a b", free, bad), sel(0, "a b", free, loop), sel(0, "a b", free, tint), send(0, free, tint), send(0, free, send(-1, tint, tend)),
		sel(0, "a b", sel(0, "a", free), send(-1, tint, tend)), sel(0, "a b", rec("t", free), rec("t", tvar("t", 0))))
	wantRight(t, api.ErrShape, sel(0, "a b", bad, free), sel(0, "a b", loop, free), sel(0, "a b", tint, free), send(0, bad, free), sel(0, "a a", free, free), send(-1, free, free), send(0, free), rec("", free), sel(0, "a b", sel(0, "a", tbool), free),
		api.Type{Kind: api.TVar, Name: "x", Shift: -1}, api.Type{Kind: api.TVar, Name: "x", Prio: 1}, api.Type{Kind: api.TInt, Kids: []api.Type{free}}, api.Type{Kind: 10, Kids: []api.Type{free}})
}

func TestAKidThatIsNoSessionTypeIsAnErrorOfTheKid(t *testing.T) {
	free := tvar("x", 0)
	wantRight(t, api.ErrName, send(0, free, tint), recv(0, send(0, tint, free), tbool), sel(0, "a b c", tend, free, tint), branch(0, "a b", send(0, free, tend), tbool))
	wantRight(t, api.ErrShape, sel(0, "a b c", tend, tint, free), branch(0, "a b", tbool, send(0, free, tend)), send(0, rec("t", tint), free))
}

// P2.1: limits.

func TestDepthAtItsLimit(t *testing.T) {
	wantRight(t, api.OK, chain(99), chain(100))
	wantRight(t, api.ErrLimit, chain(101), chain(102), chain(1000), chain(1<<16))
	deepPayload, recs := tend, tend
	for range 99 {
		deepPayload, recs = send(0, deepPayload, tend), rec("t", recs)
	}
	wantRight(t, api.OK, deepPayload, recs)
	wantRight(t, api.ErrLimit, send(0, deepPayload, tend), rec("t", recs), sel(0, "a b", tend, recs))
}

func TestNodesAtTheirLimit(t *testing.T) {
	wantRight(t, api.OK, wide(9999), wide(10000), send(0, wide(5000), wide(4999)))
	wantRight(t, api.ErrLimit, wide(10001), wide(20000), send(0, wide(5000), wide(5000)))
}

func TestTheLimitsComeBeforeOtherErrors(t *testing.T) {
	bad, free := send(-1, tint, tend), tvar("x", 0)
	wantRight(t, api.ErrLimit, send(-1, tint, chain(100)), send(0, free, chain(100)), send(0, bad, chain(100)), api.Type{Kids: []api.Type{chain(100)}}, rec("t", chain(100)), rec("", chain(100)), send(0, chain(100)))
	for _, a := range []api.Type{{}, bad, free, rec("t", tvar("t", 0)), tint} {
		first, last := wide(10000), wide(10000)
		first.Kids[0], last.Kids[9998] = a, a
		wantRight(t, api.ErrLimit, sel(0, "a", first), sel(0, "a", last), api.Type{Kids: []api.Type{first}})
	}
	equal := wide(10001)
	equal.Labels[9999] = "l0"
	wantRight(t, api.ErrLimit, equal)
	wantRight(t, api.ErrLimit, api.Type{Kind: api.TInt, Kids: make([]api.Type, 10000)})
	wantRight(t, api.ErrShape, api.Type{Kind: api.TInt, Kids: make([]api.Type, 9999)})
}

func TestOtherErrorsWithinTheLimits(t *testing.T) {
	a := wide(10000)
	a.Labels[9998] = "l0"
	wantRight(t, api.ErrShape, a)
	a.Labels[9998] = "l9998"
	a.Kids[9998] = tvar("x", 0)
	wantRight(t, api.ErrName, a)
	wantRight(t, api.ErrName, send(0, tvar("x", 0), chain(99)))
}

// P1: types that share their Kids, or contain themselves, have more nodes than can be visited.

func TestRightEndsForTypesWithoutEnd(t *testing.T) {
	a := tend
	for range 99 {
		a = sel(0, "a b", a, a)
	}
	wantRight(t, api.ErrLimit, a)
	loop := send(0, tint, tend)
	loop.Kids[1] = loop
	wantRight(t, api.ErrLimit, loop)
	many := api.Type{Kind: api.TSelect, Kids: make([]api.Type, 2)}
	many.Kids[0], many.Kids[1] = many, many
	wantRight(t, api.ErrLimit, many)
}

// P2.2

func TestSession(t *testing.T) {
	for k := -2; k < 20; k++ {
		if want := k != api.TInt && k != api.TBool; typetree.Session(api.Type{Kind: k}) != want {
			t.Errorf("Kind %d: want %v", k, want)
		}
	}
	if typetree.Session(api.Type{Kind: api.TInt, Kids: []api.Type{tend}}) || !typetree.Session(send(0, tint)) {
		t.Error("other fields than the Kind matter")
	}
}

func TestSame(t *testing.T) {
	a := rec("t", sel(1, "a b", send(2, tint, tvar("t", 3)), branch(4, "c", tend)))
	others := []api.Type{
		{}, tend,
		rec("u", sel(1, "a b", send(2, tint, tvar("t", 3)), branch(4, "c", tend))),
		rec("t", sel(0, "a b", send(2, tint, tvar("t", 3)), branch(4, "c", tend))),
		rec("t", sel(1, "b a", send(2, tint, tvar("t", 3)), branch(4, "c", tend))),
		rec("t", sel(1, "b a", branch(4, "c", tend), send(2, tint, tvar("t", 3)))),
		rec("t", sel(1, "a b", branch(4, "c", tend), send(2, tint, tvar("t", 3)))),
		rec("t", sel(1, "a", send(2, tint, tvar("t", 3)), branch(4, "c", tend))),
		rec("t", sel(1, "a b c", send(2, tint, tvar("t", 3)), branch(4, "c", tend))),
		rec("t", sel(1, "a b", send(2, tint, tvar("t", 3)))),
		rec("t", sel(1, "a b", send(2, tint, tvar("t", 3)), branch(4, "c", tend), tend)),
		rec("t", branch(1, "a b", send(2, tint, tvar("t", 3)), branch(4, "c", tend))),
		rec("t", sel(1, "a b", send(2, tbool, tvar("t", 3)), branch(4, "c", tend))),
		rec("t", sel(1, "a b", send(2, tint, tvar("t", 2)), branch(4, "c", tend))),
		rec("t", sel(1, "a b", send(2, tint, tvar("u", 3)), branch(4, "c", tend))),
		rec("t", sel(1, "a b", send(2, tint, tvar("t", 3)), branch(4, "d", tend))),
		rec("u", sel(1, "a b", send(2, tint, tvar("u", 3)), branch(4, "c", tend))),
	}
	if !typetree.Same(a, a) || !typetree.Same(a, clone(a)) || !typetree.Same(api.Type{}, api.Type{}) {
		t.Error("a type is not the same as itself")
	}
	for _, b := range others {
		if typetree.Same(a, b) || typetree.Same(b, a) {
			t.Errorf("%s is the same as %s", text(a), text(b))
		}
	}
}

func TestSameOfTypesThatAreNotRight(t *testing.T) {
	l := []api.Type{{}, {Kind: -1}, {Kind: 10}, {Prio: 1}, {Prio: -1}, {Name: "t"}, {Name: "T"}, {Name: " "}, {Shift: 1}, {Shift: -1}, {Labels: []string{""}}, {Labels: []string{"", ""}}, {Labels: []string{"a"}}, {Kids: []api.Type{{}}}, {Kids: []api.Type{{}, {}}}, {Kids: []api.Type{{Kind: 10}}}, {Kids: []api.Type{{Kids: []api.Type{{}}}}}}
	for i, a := range l {
		for j, b := range l {
			if typetree.Same(a, clone(b)) != (i == j) {
				t.Errorf("%s and %s: want %v", text(a), text(b), i == j)
			}
		}
	}
}

func TestSizeAndDepth(t *testing.T) {
	for _, c := range []struct {
		a           api.Type
		size, depth int
	}{
		{api.Type{}, 1, 1}, {tint, 1, 1}, {tend, 1, 1}, {tvar("t", 1), 1, 1},
		{send(0, tint, tend), 3, 2}, {rec("t", tvar("t", 0)), 2, 2}, {sel(0, "a b c", tend, tend, tend), 4, 2},
		{send(0, send(0, tint, tend), tend), 5, 3}, {send(0, tint, send(0, tint, tend)), 5, 3},
		{branch(0, "a b c", tend, rec("t", rec("u", tend)), tend), 6, 4},
		{api.Type{Labels: []string{"a", "b"}}, 1, 1}, {api.Type{Kind: api.TInt, Kids: []api.Type{{}, {Kids: []api.Type{{}}}}}, 4, 3},
		{chain(1000), 1999, 1000}, {wide(20000), 20000, 2},
	} {
		if size, depth := typetree.Size(c.a), typetree.Depth(c.a); size != c.size || depth != c.depth {
			t.Errorf("%s: got %d nodes and depth %d, want %d and %d", short(c.a), size, depth, c.size, c.depth)
		}
	}
}

// P2.3

func wantType(t *testing.T, got, want api.Type) {
	t.Helper()
	if text(got) != text(want) {
		t.Errorf("got %s, want %s", text(got), text(want))
	}
}

func TestRaise(t *testing.T) {
	a := rec("t", send(1, recv(2, tint, tend), sel(3, "a b", tvar("t", 7), branch(4, "c", rec("u", recv(5, tbool, tvar("u", 8)))))))
	wantType(t, typetree.Raise(a, 10), rec("t", send(11, recv(12, tint, tend), sel(13, "a b", tvar("t", 7), branch(14, "c", rec("u", recv(15, tbool, tvar("u", 8))))))))
	wantType(t, typetree.Raise(a, -3), rec("t", send(-2, recv(-1, tint, tend), sel(0, "a b", tvar("t", 7), branch(1, "c", rec("u", recv(2, tbool, tvar("u", 8))))))))
	wantType(t, typetree.Raise(a, 0), a)
	wantType(t, typetree.Raise(send(-1<<62, tint, tend), -1<<62), send(-1<<63, tint, tend))
	wantType(t, typetree.Raise(send(0, tint, tend), 1<<63-1), send(1<<63-1, tint, tend))
	for _, b := range []api.Type{tint, tbool, tend, tvar("t", 2), rec("t", tend)} {
		wantType(t, typetree.Raise(b, 5), b)
	}
}

func TestRaiseOfTypesThatAreNotRight(t *testing.T) {
	for k := -1; k < 12; k++ {
		a := api.Type{Kind: k, Prio: 3, Name: "n", Shift: 4, Labels: []string{"", ""}, Kids: []api.Type{send(1), {}}}
		want := clone(a)
		want.Kids[0].Prio = 6
		if k >= api.TSend && k <= api.TBranch {
			want.Prio = 8
		}
		wantType(t, typetree.Raise(a, 5), want)
	}
	wantType(t, typetree.Raise(api.Type{}, 5), api.Type{})
}

func TestCopy(t *testing.T) {
	for _, a := range []api.Type{{}, tint, rec("t", send(1, recv(2, tint, tend), sel(3, "a b", tvar("t", 7), tend))), {Kind: 77, Prio: -1, Name: "", Shift: -2, Labels: []string{"", "x"}, Kids: []api.Type{{Prio: 9}}}, chain(1000)} {
		wantType(t, typetree.Copy(a), a)
	}
}

func TestUnfold(t *testing.T) {
	a := rec("t", send(0, tint, tvar("t", 2)))
	wantType(t, typetree.Unfold(a), send(0, tint, rec("t", send(2, tint, tvar("t", 2)))))
	b := rec("t", recv(1, tvar("t", 3), sel(2, "a b", tvar("t", 0), tend)))
	wantType(t, typetree.Unfold(b), recv(1, typetree.Raise(b, 3), sel(2, "a b", b, tend)))
	for _, c := range []api.Type{tint, tbool, tend, send(4, a, a), sel(0, "a", b)} {
		wantType(t, typetree.Unfold(c), c)
	}
	wantType(t, typetree.Unfold(rec("t", tend)), tend)
	wantType(t, typetree.Unfold(rec("t", rec("u", rec("t", tend)))), tend)
}

func TestUnfoldOfNestedTypes(t *testing.T) {
	// rec t. rec u. +1{a: t+2, b: u+3}
	body := func(prio int) api.Type { return sel(prio, "a b", tvar("t", 2), tvar("u", 3)) }
	outer := func(raised int) api.Type { return rec("t", rec("u", body(1+raised))) }
	inner := func(raised int) api.Type { return rec("u", sel(1+raised, "a b", outer(2+raised), tvar("u", 3))) }
	wantType(t, typetree.Unfold(outer(0)), sel(1, "a b", outer(2), inner(3)))
	wantType(t, typetree.Unfold(outer(-7)), sel(-6, "a b", outer(-5), inner(-4)))
}

func TestUnfoldKeepsInnerNames(t *testing.T) {
	inner := rec("t", recv(5, tint, tvar("t", 1)))
	a := rec("t", sel(0, "a b c", inner, tvar("t", 4), rec("u", send(2, inner, tvar("t", 6)))))
	wantType(t, typetree.Unfold(a), sel(0, "a b c", inner, typetree.Raise(a, 4), rec("u", send(2, inner, typetree.Raise(a, 6)))))
	b := rec("t", rec("t", sel(0, "a", tvar("t", 1))))
	wantType(t, typetree.Unfold(b), sel(0, "a", rec("t", sel(1, "a", tvar("t", 1)))))
	wantType(t, typetree.Unfold(rec("t", sel(0, "a", rec("T", send(0, tvar("T", 1), tvar("t", 2)))))),
		sel(0, "a", rec("T", send(0, tvar("T", 1), rec("t", sel(2, "a", rec("T", send(2, tvar("T", 1), tvar("t", 2)))))))))
}
