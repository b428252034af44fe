package head_test

import (
	"math"
	"slices"
	"testing"

	"duologue/graph"
	"duologue/head"
)

// P8.3

// actions has the nodes 0 !40, 1 int, 2 ?30, 3 bool, 4 +20, 5 &10 and 6 end.
const actions = "!40 int.?30 bool.+20 {a: &10 {a: end}}"

func wantLowest(t *testing.T, g graph.Graph, l []graph.Ref, want int, ok bool) {
	t.Helper()
	if got, found := head.Lowest(g, l); got != want || found != ok {
		t.Errorf("%v: got %d and %v, want %d and %v", l, got, found, want, ok)
	}
}

func refs(nodes ...int) []graph.Ref {
	var l []graph.Ref
	for _, n := range nodes {
		l = append(l, ref(n, 0))
	}
	return l
}

func TestLowestOfNoReferences(t *testing.T) {
	g, _ := build(t, actions)
	wantLowest(t, g, nil, 0, false)
	wantLowest(t, g, []graph.Ref{}, 0, false)
	wantLowest(t, graph.Graph{}, nil, 0, false)
}

func TestLowestOfReferencesWithoutPriority(t *testing.T) {
	g, _ := build(t, actions)
	wantLowest(t, g, refs(1), 0, false)
	wantLowest(t, g, refs(3), 0, false)
	wantLowest(t, g, refs(6), 0, false)
	wantLowest(t, g, refs(6, 1, 3, 6), 0, false)
	wantLowest(t, g, []graph.Ref{ref(1, 5), ref(3, -5), ref(6, 7)}, 0, false)
}

func TestLowestOfOneReference(t *testing.T) {
	g, _ := build(t, actions)
	for n, prio := range map[int]int{0: 40, 2: 30, 4: 20, 5: 10} {
		for _, k := range shifts {
			wantLowest(t, g, []graph.Ref{ref(n, k)}, prio+k, true)
		}
	}
}

func TestPlacesOfTheLowest(t *testing.T) {
	g, _ := build(t, actions)
	wantLowest(t, g, refs(5, 0, 2, 4), 10, true)
	wantLowest(t, g, refs(0, 5, 2, 4), 10, true)
	wantLowest(t, g, refs(0, 2, 5, 4), 10, true)
	wantLowest(t, g, refs(0, 2, 4, 5), 10, true)
	wantLowest(t, g, refs(0, 2), 30, true)
	wantLowest(t, g, refs(2, 0), 30, true)
	wantLowest(t, g, refs(0, 2, 0), 30, true)
	wantLowest(t, g, refs(2, 4, 0), 20, true)
}

func TestLowestOfReferencesOfWhichSomeHaveNone(t *testing.T) {
	g, _ := build(t, actions)
	wantLowest(t, g, refs(6, 0, 4), 20, true)
	wantLowest(t, g, refs(0, 6, 4), 20, true)
	wantLowest(t, g, refs(4, 0, 6), 20, true)
	wantLowest(t, g, refs(1, 0, 3, 6), 40, true)
	wantLowest(t, g, refs(1, 3, 6, 0), 40, true)
	wantLowest(t, g, refs(0, 1, 3, 6), 40, true)
	wantLowest(t, g, []graph.Ref{ref(6, -100), ref(0, 0), ref(1, -100), ref(2, 0), ref(3, -100)}, 30, true)
}

func TestLowestWithShifts(t *testing.T) {
	g, _ := build(t, actions)
	wantLowest(t, g, []graph.Ref{ref(0, -35), ref(5, 0)}, 5, true)
	wantLowest(t, g, []graph.Ref{ref(5, 31), ref(0, 0)}, 40, true)
	wantLowest(t, g, []graph.Ref{ref(5, 100), ref(4, 100), ref(2, 89)}, 110, true)
	wantLowest(t, g, []graph.Ref{ref(5, -10), ref(4, 0)}, 0, true)
	wantLowest(t, g, []graph.Ref{ref(4, 0), ref(5, -11), ref(2, -30)}, -1, true)
	wantLowest(t, g, []graph.Ref{ref(4, -25), ref(5, -25), ref(2, -25), ref(6, -25)}, -15, true)
	wantLowest(t, g, []graph.Ref{ref(0, math.MinInt), ref(5, math.MaxInt-10)}, math.MinInt+40, true)
	wantLowest(t, g, []graph.Ref{ref(5, math.MaxInt-10), ref(0, math.MinInt)}, math.MinInt+40, true)
	wantLowest(t, g, []graph.Ref{ref(5, math.MaxInt-10)}, math.MaxInt, true)
}

func TestLowestOfTheSameReferences(t *testing.T) {
	g, _ := build(t, actions)
	wantLowest(t, g, refs(2, 2, 2), 30, true)
	wantLowest(t, g, refs(0, 2, 2, 0), 30, true)
	wantLowest(t, g, refs(6, 6), 0, false)
	wantLowest(t, g, []graph.Ref{ref(2, 5), ref(2, 1), ref(2, 3)}, 31, true)
	wantLowest(t, g, []graph.Ref{ref(0, -10), ref(2, 0), ref(4, 10)}, 30, true)
}

// Every order of a list has the same least priority.
func TestLowestOfAllOrders(t *testing.T) {
	g, _ := build(t, actions)
	l := []graph.Ref{ref(0, -5), ref(6, 0), ref(2, 9), ref(4, 50), ref(1, -99)}
	orders := 0
	var arrange func(n int)
	arrange = func(n int) {
		if n == len(l) {
			orders++
			wantLowest(t, g, l, 35, true)
			return
		}
		for i := n; i < len(l); i++ {
			l[n], l[i] = l[i], l[n]
			arrange(n + 1)
			l[n], l[i] = l[i], l[n]
		}
	}
	arrange(0)
	if orders != 120 {
		t.Errorf("%d orders", orders)
	}
}

func TestRaise(t *testing.T) {
	for _, x := range [][4]int{
		// Node, Shift, the number, and the Shift of the result
		{0, 0, 0, 0}, {0, 0, 3, 3}, {0, 0, -3, -3},
		{4, 0, 3, 3}, {4, 5, 0, 5}, {4, 5, 3, 8}, {4, 5, -3, 2}, {4, 5, -5, 0}, {4, 5, -9, -4},
		{7, -5, 3, -2}, {7, -5, 5, 0}, {7, -5, -5, -10}, {7, -5, 0, -5},
		{9, 1000000, 1000000, 2000000}, {9, 1, math.MaxInt - 1, math.MaxInt}, {9, math.MaxInt, math.MinInt, -1}, {9, -1, math.MinInt + 1, math.MinInt},
	} {
		if got, want := head.Raise(ref(x[0], x[1]), x[2]), ref(x[0], x[3]); got != want {
			t.Errorf("%v: got %v, want %v", x, got, want)
		}
	}
}

func TestRaiseTwice(t *testing.T) {
	for _, a := range shifts[:7] {
		for _, b := range shifts[:7] {
			if got, want := head.Raise(head.Raise(ref(3, 4), a), b), ref(3, 4+a+b); got != want {
				t.Errorf("by %d and %d: got %v, want %v", a, b, got, want)
			}
		}
	}
}

// P8.5

func TestRaisedReferences(t *testing.T) {
	for _, s := range []string{everyKind, circles, actions, "int", "bool", "rec t.end"} {
		g, _ := build(t, s)
		for n := range g.Nodes {
			for _, shift := range []int{0, 3, -8} {
				for _, k := range shifts {
					wantRaised(t, g, ref(n, shift), k)
				}
			}
		}
	}
}

// wantRaised checks that all results for a raised reference are raised, or are the same where there is nothing to raise.
func wantRaised(t *testing.T, g graph.Graph, r graph.Ref, k int) {
	t.Helper()
	raised := head.Raise(r, k)
	prio, ok := head.Prio(g, r)
	if ok {
		prio += k
	}
	wantPrio(t, g, raised, prio, ok)
	wantLowest(t, g, []graph.Ref{raised}, prio, ok)
	for i := range len(g.Nodes[r.Node].Next) + 2 {
		next, ok := head.Next(g, r, i-1)
		if ok {
			next = head.Raise(next, k)
		}
		wantNext(t, g, raised, i-1, next, ok)
		wantAfter(t, g, raised, []int{i - 1}, next, ok)
	}
	for _, label := range append(head.Labels(g, r), "", "none") {
		next, ok := head.Label(g, r, label)
		if ok {
			next = head.Raise(next, k)
		}
		wantLabel(t, g, raised, label, next, ok)
	}
	if head.Kind(g, raised) != head.Kind(g, r) || !slices.Equal(head.Labels(g, raised), head.Labels(g, r)) {
		t.Errorf("%v, raised by %d: another Kind or other labels", r, k)
	}
}
