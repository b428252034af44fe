package equal

import (
	"strconv"
	"strings"

	"duologue/graph"
	"duologue/head"
)

// Nodes are put into classes as if each action was raised to the priority 0: two actions are equal exactly
// if they are so then, and have the same priority. A class has the number of its first node.

// allSteps returns the references behind each node that is raised to the priority 0, with their priorities instead of Shifts.
func allSteps(g graph.Graph) [][]graph.Ref {
	var all [][]graph.Ref
	for n := range g.Nodes {
		r := graph.Ref{Node: n}
		steps := behind(g, head.Raise(r, -prio(g, r)))
		for i, next := range steps {
			steps[i].Shift = prio(g, next)
		}
		all = append(all, steps)
	}
	return all
}

// firstClasses returns the classes of nodes with the same Kind and the same labels.
func firstClasses(g graph.Graph) []int {
	var keys []string
	for n := range g.Nodes {
		r := graph.Ref{Node: n}
		keys = append(keys, strconv.Itoa(head.Kind(g, r))+" "+strings.Join(head.Labels(g, r), " "))
	}
	return firsts(keys)
}

// refined returns the classes of nodes of one class whose steps have the same priorities, and lead to nodes of one class.
func refined(classes []int, steps [][]graph.Ref) []int {
	// Equal lists of steps get equal numbers: the empty list 0, and a longer one that of the list without the last step, with this step.
	numbers := map[[3]int]int{}
	var keys [][2]int
	for n, class := range classes {
		list := 0
		for _, r := range steps[n] {
			longer := [3]int{list, r.Shift, classes[r.Node]}
			if numbers[longer] == 0 {
				numbers[longer] = len(numbers) + 1
			}
			list = numbers[longer]
		}
		keys = append(keys, [2]int{class, list})
	}
	return firsts(keys)
}

// splitByPrio returns the classes of nodes of one class with the same priority.
func splitByPrio(g graph.Graph, classes []int) []int {
	var keys [][2]int
	for n, class := range classes {
		keys = append(keys, [2]int{class, prio(g, graph.Ref{Node: n})})
	}
	return firsts(keys)
}

// firsts returns the index of the first equal element, for each element of a list.
func firsts[E comparable](l []E) []int {
	first := map[E]int{}
	var indices []int
	for i, e := range l {
		if _, ok := first[e]; !ok {
			first[e] = i
		}
		indices = append(indices, first[e])
	}
	return indices
}
