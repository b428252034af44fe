package typetree_test

import (
	"fmt"
	"maps"
	"regexp"
	"slices"
	"testing"

	"duologue/api"
	"duologue/typetree"
)

// The functions of this file find the results in another way than the package, for many small types.

var (
	nameForm = regexp.MustCompile(`\A[A-Za-z_][A-Za-z0-9_]*\z`)
	keywords = regexp.MustCompile(`\A(def|main|stop|new|int|bool|end|rec|true|false)\z`)
)

func isName(s string) bool {
	return nameForm.MatchString(s) && !keywords.MatchString(s)
}

func inRange(n int) bool {
	return n >= 0 && n <= 1000000
}

// clone copies a type by its fields.
func clone(t api.Type) api.Type {
	return substituted(t, nil)
}

// raised is Raise in another way.
func raised(t api.Type, k int) api.Type {
	u := clone(t)
	work := []*api.Type{&u}
	for len(work) > 0 {
		n := work[0]
		work = work[1:]
		if n.Kind >= 4 && n.Kind <= 7 {
			n.Prio += k
		}
		for i := range n.Kids {
			work = append(work, &n.Kids[i])
		}
	}
	return u
}

// substituted returns a type in new memory, where variables are replaced by closed types.
func substituted(t api.Type, scope map[string]api.Type) api.Type {
	if by, ok := scope[t.Name]; ok && t.Kind == api.TVar {
		return raised(by, t.Shift)
	}
	if t.Kind == api.TRec {
		scope = maps.Clone(scope)
		delete(scope, t.Name)
	}
	u := api.Type{Kind: t.Kind, Prio: t.Prio, Name: t.Name, Shift: t.Shift, Labels: append([]string(nil), t.Labels...)}
	for _, kid := range t.Kids {
		u.Kids = append(u.Kids, substituted(kid, scope))
	}
	return u
}

// unfolded is Unfold in another way: all TRecs in front are taken away first, and replaced together.
func unfolded(t api.Type) api.Type {
	scope := map[string]api.Type{}
	for t.Kind == api.TRec {
		scope[t.Name], t = substituted(t, scope), t.Kids[0]
	}
	return substituted(t, scope)
}

// rightError is Right in another way, for types within the limits: guarded has the bound names, and whether there is an action since.
func rightError(t api.Type, payload bool, guarded map[string]bool) api.Errno {
	if !payload && (t.Kind == api.TInt || t.Kind == api.TBool) || !wellFormed(t) {
		return api.ErrShape
	}
	below := maps.Clone(guarded)
	switch t.Kind {
	case api.TVar:
		if g, ok := guarded[t.Name]; !ok {
			return api.ErrName
		} else if !g {
			return api.ErrShape
		}
	case api.TRec:
		below[t.Name] = false
	default:
		for name := range guarded {
			below[name] = true
		}
	}
	for i, kid := range t.Kids {
		payload := i == 0 && (t.Kind == api.TSend || t.Kind == api.TRecv)
		if err := rightError(kid, payload, below); err != api.OK {
			return err
		}
	}
	return api.OK
}

func wellFormed(t api.Type) bool {
	u := api.Type{Kind: t.Kind}
	switch t.Kind {
	case api.TInt, api.TBool, api.TEnd:
	case api.TSend, api.TRecv:
		u.Prio, u.Kids = t.Prio, make([]api.Type, 2)
	case api.TSelect, api.TBranch:
		sorted := slices.Sorted(slices.Values(t.Labels))
		if len(sorted) == 0 || len(slices.Compact(sorted)) < len(t.Labels) || slices.ContainsFunc(t.Labels, func(s string) bool { return !isName(s) }) {
			return false
		}
		u.Prio, u.Labels, u.Kids = t.Prio, t.Labels, make([]api.Type, len(t.Labels))
	case api.TRec:
		u.Name, u.Kids = t.Name, make([]api.Type, 1)
	case api.TVar:
		u.Name, u.Shift = t.Name, t.Shift
	default:
		return false
	}
	named := t.Kind != api.TRec && t.Kind != api.TVar || isName(t.Name)
	return named && inRange(t.Prio) && inRange(t.Shift) && sameFields(t, u) && len(t.Kids) == len(u.Kids)
}

// sameFields compares all fields but Kids.
func sameFields(a, b api.Type) bool {
	return a.Kind == b.Kind && a.Prio == b.Prio && a.Name == b.Name && a.Shift == b.Shift && slices.Equal(a.Labels, b.Labels)
}

// equal is Same in another way: both types are walked along together, with a list of what is left to compare.
func equal(a, b api.Type) bool {
	work := [][2]api.Type{{a, b}}
	for len(work) > 0 {
		a, b := work[0][0], work[0][1]
		work = work[1:]
		if !sameFields(a, b) || len(a.Kids) != len(b.Kids) {
			return false
		}
		for i := range a.Kids {
			work = append(work, [2]api.Type{a.Kids[i], b.Kids[i]})
		}
	}
	return true
}

// above calls f with types of which the Kids are from a list.
func above(l []api.Type, f func(api.Type)) {
	for _, a := range l {
		f(rec("t", a))
		f(rec("u", a))
		f(sel(4, "a", a))
		f(send(5, a))
		for _, b := range l {
			f(send(1, a, b))
			f(recv(2, a, b))
			f(branch(3, "a b", a, b))
			f(sel(6, "a a", a, b))
		}
	}
}

// eachSmallType calls f with types up to a depth of 4 over some leaves, of which most are not right.
func eachSmallType(leaves []api.Type, f func(api.Type)) {
	low := slices.Clone(leaves)
	above(leaves, func(a api.Type) { low = append(low, a) })
	for _, a := range low {
		f(a)
	}
	above(low, func(a api.Type) {
		f(a)
		f(rec("t", a))
	})
}

func TestRightOfSmallTypes(t *testing.T) {
	seen := map[api.Errno]int{}
	eachSmallType([]api.Type{tint, tend, tvar("t", 1), tvar("u", 2), {}, tvar("int", 0)}, func(a api.Type) {
		got, want := typetree.Right(a), rightError(a, true, map[string]bool{})
		if got != want {
			t.Fatalf("%s: got %d, want %d", text(a), got, want)
		}
		seen[got]++
	})
	if len(seen) != 3 || seen[api.OK] < 1000 || seen[api.ErrShape] < 1000 || seen[api.ErrName] < 1000 {
		t.Errorf("too few types of a kind: %v", seen)
	}
}

// P2.2, P2.3 and P2.5.

func TestSmallTypes(t *testing.T) {
	eachSmallType([]api.Type{tint, tend, tvar("t", 1), tvar("u", 2)}, func(a api.Type) {
		if c := typetree.Copy(a); !equal(c, a) || !typetree.Same(c, a) {
			t.Fatalf("%s: copied to %s", text(a), text(c))
		}
		right := rightError(a, true, map[string]bool{}) == api.OK
		for _, k := range []int{-3, 0} {
			up := raised(a, k)
			if got := typetree.Raise(a, k); !equal(got, up) || typetree.Same(got, a) != equal(up, a) {
				t.Fatalf("%s: raised by %d to %s", text(a), k, text(got))
			}
			if right {
				wantUnfolded(t, a, k)
			}
		}
	})
}

// wantUnfolded checks the unfolding of a right type that is raised by k, and that raising may also come after unfolding.
func wantUnfolded(t *testing.T, a api.Type, k int) {
	t.Helper()
	want := unfolded(raised(a, k))
	if got := typetree.Unfold(typetree.Raise(a, k)); !equal(got, want) {
		t.Fatalf("%s raised by %d: unfolded to %s, want %s", short(a), k, short(got), short(want))
	}
	if got := typetree.Raise(typetree.Unfold(a), k); !equal(got, want) {
		t.Fatalf("%s unfolded: raised by %d to %s, want %s", short(a), k, short(got), short(want))
	}
}

// nested returns count TRecs with different names, around a branch with variables of these names in turn.
func nested(count, kids int) api.Type {
	a := api.Type{Kind: api.TBranch, Prio: 7}
	for i := range kids {
		a.Labels = append(a.Labels, fmt.Sprintf("l%d", i))
		a.Kids = append(a.Kids, tvar(fmt.Sprintf("t%d", i%count), i))
	}
	for i := range count {
		a = rec(fmt.Sprintf("t%d", i), a)
	}
	return a
}

func TestUnfoldOfTypesWithManyNodes(t *testing.T) {
	inFront := nested(10, 10)
	for range 88 {
		inFront = rec("t", inFront)
	}
	most := nested(1, 198)
	for _, a := range []api.Type{nested(1, 1), most, nested(2, 20), nested(5, 10), nested(10, 10), inFront} {
		if typetree.Size(a) > 200 || typetree.Right(a) != api.OK {
			t.Fatalf("%s: %d nodes and error %d", short(a), typetree.Size(a), typetree.Right(a))
		}
		for _, k := range []int{-1 << 62, 0, 1, 1 << 62} {
			wantUnfolded(t, a, k)
		}
	}
	if got := typetree.Size(typetree.Unfold(most)); got != 1+198*200 {
		t.Errorf("got %d nodes", got)
	}
}
