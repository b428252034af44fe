package proctree_test

import (
	"maps"
	"regexp"
	"slices"
	"testing"

	"duologue/api"
	"duologue/proctree"
)

// The functions of this file find the results in another way than the package, for many small processes.

var (
	nameForm = regexp.MustCompile(`\A[A-Za-z_][A-Za-z0-9_]*\z`)
	keywords = regexp.MustCompile(`\A(def|main|stop|new|int|bool|end|rec|true|false)\z`)
)

func isName(s string) bool {
	return nameForm.MatchString(s) && !keywords.MatchString(s)
}

func isValue(v api.Value) bool {
	return v.Kind == 1 && isName(v.Name) && v.N == 0 || v.Kind == 2 && v.Name == "" || v == api.Value{Kind: 3} || v == api.Value{Kind: 3, N: 1}
}

// wellFormed looks at one node; the types of small processes are tint, tend or zero.
func wellFormed(p api.Proc) bool {
	q := api.Proc{Kind: p.Kind, Chan: p.Chan, Labels: p.Labels, Args: p.Args, Kids: p.Kids} // what the Kind may have
	ok := isName(p.Chan)
	switch p.Kind {
	case api.PStop:
		return sameNode(p, stop)
	case api.PSend:
		q.Labels = nil
		ok = ok && len(p.Args) == 1 && isValue(p.Args[0]) && len(p.Kids) == 1
	case api.PRecv:
		q.Var, q.Labels, q.Args = p.Var, nil, nil
		ok = ok && isName(p.Var) && len(p.Kids) == 1
	case api.PSelect:
		q.Args = nil
		ok = ok && len(p.Labels) == 1 && isName(p.Labels[0]) && len(p.Kids) == 1
	case api.PBranch:
		q.Args = nil
		sorted := slices.Sorted(slices.Values(p.Labels))
		ok = ok && len(sorted) > 0 && len(slices.Compact(sorted)) == len(p.Kids) && len(p.Kids) == len(p.Labels)
		for _, s := range p.Labels {
			ok = ok && isName(s)
		}
	case api.PNew:
		q.Var, q.T, q.Labels, q.Args = p.Var, tend, nil, nil
		ok = ok && isName(p.Var) && p.Var != p.Chan && len(p.Kids) == 1
	case api.PPar:
		q.Chan, q.Labels, q.Args = "", nil, nil
		ok = len(p.Kids) >= 2
		for _, kid := range p.Kids {
			ok = ok && kid.Kind != api.PPar
		}
	case api.PCall:
		q.Labels, q.Kids = nil, nil
		for _, v := range p.Args {
			ok = ok && isValue(v)
		}
	default:
		return false
	}
	return ok && sameNode(p, q)
}

// sameNode compares all fields, and of the Kids their number.
func sameNode(p, q api.Proc) bool {
	return p.Kind == q.Kind && p.Chan == q.Chan && p.Var == q.Var && slices.Equal(p.Labels, q.Labels) && slices.Equal(p.Args, q.Args) && typeText(p.T) == typeText(q.T) && len(p.Kids) == len(q.Kids)
}

// figures are the size, the depth and the error of a process within the limits.
func figures(p api.Proc) (size, depth int, err api.Errno) {
	size = 1
	if !wellFormed(p) {
		err = api.ErrShape
	}
	for _, kid := range p.Kids {
		s, d, e := figures(kid)
		size, depth, err = size+s, max(depth, d), max(err, e)
	}
	return size, depth + 1, err
}

// occurrences returns the names that are not in a set of bound ones, as often as they occur.
func occurrences(p api.Proc, bound map[string]bool) []string {
	var l []string
	if p.Kind >= 2 && p.Kind <= 5 {
		l = append(l, p.Chan)
	}
	for _, v := range p.Args {
		if v.Kind == 1 {
			l = append(l, v.Name)
		}
	}
	l = slices.DeleteFunc(l, func(s string) bool { return bound[s] })
	below := maps.Clone(bound)
	if p.Kind == api.PNew {
		below[p.Chan] = true
	}
	if p.Kind == api.PNew || p.Kind == api.PRecv {
		below[p.Var] = true
	}
	for _, kid := range p.Kids {
		l = append(l, occurrences(kid, below)...)
	}
	return l
}

// free is Free in another way: later occurrences are taken away at the end.
func free(p api.Proc) []string {
	var l []string
	for _, s := range occurrences(p, map[string]bool{}) {
		if !slices.Contains(l, s) {
			l = append(l, s)
		}
	}
	return l
}

// over calls f with processes of which the Kids are from a list, well-formed and not.
func over(l []api.Proc, f func(api.Proc)) {
	for _, p := range l {
		f(send("a", name("b"), p))
		f(send("c", name("a"), p))
		f(recv("a", "b", p))
		f(recv("b", "b", p))
		f(sel("c", "l", p))
		f(sel("a", "l l", p))
		f(restrict("a", "b", tend, p))
		f(restrict("b", "b", tend, p))
		f(restrict("b", "c", tint, p))
		f(par(p))
		for _, q := range l {
			f(par(p, q))
			f(branch("b", "l m", p, q))
			f(branch("c", "l l", p, q))
			f(par(p, call("X", name("c")), q))
		}
	}
}

// eachSmallProcess calls f with processes up to a depth of 4 over some leaves.
func eachSmallProcess(leaves []api.Proc, f func(api.Proc)) {
	low := slices.Clone(leaves)
	over(leaves, func(p api.Proc) { low = append(low, p) })
	for _, p := range low {
		f(p)
	}
	over(low, func(p api.Proc) {
		f(p)
		f(recv("c", "a", p))
		f(restrict("c", "b", tend, p))
	})
}

func TestSmallProcesses(t *testing.T) {
	seen := map[api.Errno]int{}
	names := map[int]int{}
	eachSmallProcess([]api.Proc{stop, call("X", name("a"), name("b")), {}, call("Y", name("c"), num(1))}, func(p api.Proc) {
		size, depth, err := figures(p)
		if got := proctree.Right(p); got != err {
			t.Fatalf("%s: got %d, want %d", text(p), got, err)
		}
		if s, d := proctree.Size(p), proctree.Depth(p); s != size || d != depth {
			t.Fatalf("%s: got %d nodes and depth %d, want %d and %d", text(p), s, d, size, depth)
		}
		got, want := proctree.Free(p), free(p)
		if !slices.Equal(got, want) {
			t.Fatalf("%s: got %q, want %q", text(p), got, want)
		}
		seen[err]++
		names[len(want)]++
	})
	if len(seen) != 2 || seen[api.OK] < 1000 || seen[api.ErrShape] < 1000 || len(names) != 4 || names[0] < 100 {
		t.Errorf("too few processes of a kind: %v %v", seen, names)
	}
}

// eachNode calls f with nodes that have each combination of some values in their fields.
func eachNode(f func(api.Proc)) {
	names := []string{"", "a", "b", "new"}
	labels := [][]string{nil, {"a"}, {"a", "b"}, {"b", "b"}, {"1"}}
	args := [][]api.Value{nil, {name("a")}, {num(7)}, {boolean(2)}, {name("b"), boolean(1)}}
	types := []api.Type{{}, tend, tint}
	kids := [][]api.Proc{nil, {stop}, {stop, call("X")}, {stop, par(stop, stop)}}
	for kind := range 10 {
		for _, c := range names {
			for _, x := range names {
				for _, l := range labels {
					for _, v := range args {
						for _, a := range types {
							for _, k := range kids {
								f(api.Proc{Kind: kind, Chan: c, Var: x, Labels: l, Args: v, T: a, Kids: k})
							}
						}
					}
				}
			}
		}
	}
}

func TestRightOfSingleNodes(t *testing.T) {
	right := map[int]int{}
	eachNode(func(p api.Proc) {
		_, _, err := figures(p)
		if got := proctree.Right(p); got != err {
			t.Fatalf("%s: got %d, want %d", text(p), got, err)
		}
		if err == api.OK {
			right[p.Kind]++
		}
	})
	// For example for PBranch, two names of channels with one label and one Kid, or with two labels and each of two lists of Kids.
	want := map[int]int{api.PStop: 1, api.PSend: 4, api.PRecv: 4, api.PSelect: 2, api.PBranch: 6, api.PNew: 2, api.PPar: 1, api.PCall: 8}
	if !maps.Equal(right, want) {
		t.Errorf("got %v right nodes, want %v", right, want)
	}
}
