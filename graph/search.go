package graph

// search is a search in depth (Tarjan's algorithm) that keeps its path in a list:
// recursion would be as deep as the longest path of the graph.
type search struct {
	edges  [][]int
	found  int
	turn   []int // by node: its place among the nodes found, from 1 on, or 0 if it was not found
	low    []int // by node: the least turn it is known to reach within its component
	next   []int // by node: the index of its next edge to follow
	leader []int // by node: the node of its component that was found first, or -1 if it is not known
	path   []int // the nodes whose edges are being followed, each found from the one before
	open   []int // the nodes found whose leader is not known, in the order of their turns
}

// leaders returns for each node one node of its component, the same one for all
// nodes of a component.
func leaders(edges [][]int) []int {
	s := search{
		edges:  edges,
		turn:   make([]int, len(edges)),
		low:    make([]int, len(edges)),
		next:   make([]int, len(edges)),
		leader: make([]int, len(edges)),
	}
	for n := range len(edges) {
		s.leader[n] = -1
	}
	for n := range len(edges) {
		if s.turn[n] == 0 {
			s.from(n)
		}
	}
	return s.leader
}

// from finds all nodes that n leads to and that were not found before.
func (s *search) from(n int) {
	s.enter(n)
	for len(s.path) > 0 {
		last := s.path[len(s.path)-1]
		if s.next[last] == len(s.edges[last]) {
			s.leave(last)
			continue
		}
		to := s.edges[last][s.next[last]]
		s.next[last]++
		s.follow(last, to)
	}
}

// enter puts a node that was not found before onto the path.
func (s *search) enter(n int) {
	s.found++
	s.turn[n] = s.found
	s.low[n] = s.found
	s.path = append(s.path, n)
	s.open = append(s.open, n)
}

// follow goes along an edge of the last node of the path.
func (s *search) follow(n, to int) {
	switch {
	case !isNode(s.edges, to):
	case s.turn[to] == 0:
		s.enter(to)
	case s.leader[to] < 0:
		s.low[n] = min(s.low[n], s.turn[to])
	}
}

// leave removes the last node, all of whose edges were followed, from the path.
// If it reaches none found before it, it leads the open nodes found since.
func (s *search) leave(n int) {
	s.path = s.path[:len(s.path)-1]
	if s.low[n] < s.turn[n] {
		before := s.path[len(s.path)-1]
		s.low[before] = min(s.low[before], s.low[n])
		return
	}
	for s.leader[n] < 0 {
		last := s.open[len(s.open)-1]
		s.open = s.open[:len(s.open)-1]
		s.leader[last] = n
	}
}
