package readback

import (
	"cmp"
	"maps"
	"slices"
	"strconv"
	"strings"

	"duologue/graph"
	"duologue/head"
)

// Two actions are put into one group exactly if one of them is equal to the other when it is raised (layer 10). To ask
// equal.Offset for each two references on a path would compare the same nodes again and again: for half a minute, for
// some right types. So all nodes are put into groups at once.

// sorting has groups of nodes, which are split as long as some nodes of a group can be told from others.
type sorting struct {
	// members has the nodes of each group.
	members [][]int
	// groups has the group of each node.
	groups map[int]int
}

// arrow leads from a node, of whose steps it is the one with an index.
type arrow struct{ from, index int }

// groupsOf returns the groups of nodes with their steps, none of which leads to another node.
func groupsOf(g graph.Graph, nodes []int, steps map[int][]graph.Ref) map[int]int {
	s := firstGroups(g, nodes, steps)
	arrows := arrowsTo(nodes, steps)
	// In the turn of a group, nodes are told from others if their step with the same index leads to it, and that of the
	// others does not. A split adds the smaller part at the end of the list. The larger one needs no turn of its own: those
	// of the whole group and of the smaller part tell the same nodes from each other.
	for i := 0; i < len(s.members); i++ {
		for _, sources := range s.sources(i, arrows) {
			s.split(sources)
		}
	}
	return s.groups
}

// firstGroups puts nodes with the same outline into one group.
func firstGroups(g graph.Graph, nodes []int, steps map[int][]graph.Ref) *sorting {
	byOutline := map[string][]int{}
	for _, n := range nodes {
		key := outline(g, graph.Ref{Node: n}, steps[n])
		byOutline[key] = append(byOutline[key], n)
	}
	s := &sorting{groups: map[int]int{}}
	for _, l := range lists(byOutline) {
		s.add(l)
	}
	return s
}

// outline shows the Kind and the labels of a reference, and by how much the priorities of its steps are greater than its own.
func outline(g graph.Graph, r graph.Ref, steps []graph.Ref) string {
	words := append([]string{strconv.Itoa(head.Kind(g, r))}, head.Labels(g, r)...)
	own, _ := head.Prio(g, r)
	for _, next := range steps {
		if prio, isAction := head.Prio(g, next); isAction {
			words = append(words, strconv.Itoa(prio-own))
		}
	}
	return strings.Join(words, " ")
}

// arrowsTo returns the arrows that lead to each node.
func arrowsTo(nodes []int, steps map[int][]graph.Ref) map[int][]arrow {
	arrows := map[int][]arrow{}
	for _, n := range nodes {
		for i, next := range steps[n] {
			arrows[next.Node] = append(arrows[next.Node], arrow{from: n, index: i})
		}
	}
	return arrows
}

// sources returns the nodes from which arrows lead to a group, in a list for each index of the arrows.
func (s *sorting) sources(group int, arrows map[int][]arrow) [][]int {
	byIndex := map[int][]int{}
	for _, n := range s.members[group] {
		for _, a := range arrows[n] {
			byIndex[a.index] = append(byIndex[a.index], a.from)
		}
	}
	return lists(byIndex)
}

// split splits each group of which some nodes are in a list, and others are not.
func (s *sorting) split(nodes []int) {
	byGroup := map[int][]int{}
	for _, n := range nodes {
		byGroup[s.groups[n]] = append(byGroup[s.groups[n]], n)
	}
	for _, part := range lists(byGroup) {
		s.splitGroup(s.groups[part[0]], part)
	}
}

// splitGroup makes a new group of a part of a group or of the rest of it, whichever is smaller.
func (s *sorting) splitGroup(group int, part []int) {
	slices.Sort(part)
	rest := slices.DeleteFunc(slices.Clone(s.members[group]), func(n int) bool {
		_, found := slices.BinarySearch(part, n)
		return found
	})
	if len(rest) == 0 {
		return
	}
	if len(rest) < len(part) {
		part, rest = rest, part
	}
	s.members[group] = rest
	s.add(part)
}

// add adds a group.
func (s *sorting) add(nodes []int) {
	for _, n := range nodes {
		s.groups[n] = len(s.members)
	}
	s.members = append(s.members, nodes)
}

// lists returns the lists of a map, in the order of their keys.
func lists[K cmp.Ordered](m map[K][]int) [][]int {
	var l [][]int
	for _, key := range slices.Sorted(maps.Keys(m)) {
		l = append(l, m[key])
	}
	return l
}
