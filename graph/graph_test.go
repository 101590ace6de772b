package graph_test

import (
	"math"
	"math/rand"
	"reflect"
	"slices"
	"testing"

	"ergo/graph"
)

// wantParts fails unless Components of the edges returns these components.
func wantParts(t *testing.T, edges [][]int, want ...[]int) {
	t.Helper()
	got := graph.Components(edges)
	if !slices.EqualFunc(got, want, slices.Equal[[]int]) {
		t.Errorf("Components(%v) = %v, want %v", edges, got, want)
	}
}

// The chapter's example.
func TestExample(t *testing.T) {
	wantParts(t, [][]int{{1}, {0}, {0}, {}}, []int{0, 1}, []int{2}, []int{3})
}

// P17.1: a graph without nodes has no components.
func TestNoNodes(t *testing.T) {
	wantParts(t, nil)
	wantParts(t, [][]int{})
}

// P17.1: a node that lies on no cycle with another one is a component by itself.
func TestSingleNodes(t *testing.T) {
	wantParts(t, [][]int{nil}, []int{0})
	wantParts(t, [][]int{{0}}, []int{0})
	wantParts(t, [][]int{nil, nil, nil}, []int{0}, []int{1}, []int{2})
	wantParts(t, [][]int{{0}, {1, 0}, {2}}, []int{0}, []int{1}, []int{2})
}

// P17.1: nodes that can reach each other are one component, also by way of others.
func TestCycles(t *testing.T) {
	wantParts(t, [][]int{{1}, {2}, {0}}, []int{0, 1, 2})
	wantParts(t, [][]int{{2}, {0}, {1}}, []int{0, 1, 2})
	// Two cycles that share a node.
	wantParts(t, [][]int{{2}, {2}, {0, 1}}, []int{0, 1, 2})
	// Two cycles with an edge from the one to the other, in one direction.
	wantParts(t, [][]int{{1}, {0, 2}, {3}, {2}}, []int{2, 3}, []int{0, 1})
	wantParts(t, [][]int{{3}, {2, 0}, {1}, {0}}, []int{0, 3}, []int{1, 2})
	// A cycle that closes by way of nodes found earlier.
	wantParts(t, [][]int{{1, 3}, {2}, {0}, {4}, {1}}, []int{0, 1, 2, 3, 4})
	// An edge to a component that is complete joins nothing.
	wantParts(t, [][]int{{1, 2}, {}, {1, 3}, {2, 1}}, []int{1}, []int{2, 3}, []int{0})
}

// P17.1: the nodes of a component are in ascending order, whatever order its
// edges lead through them.
func TestAscendingNodes(t *testing.T) {
	wantParts(t, [][]int{{4}, {3}, {1}, {0}, {2}}, []int{0, 1, 2, 3, 4})
	wantParts(t, [][]int{{}, {5}, {}, {1}, {}, {3}}, []int{0}, []int{1, 3, 5}, []int{2}, []int{4})
}

// P17.1: numbers that are not nodes are skipped.
func TestNumbersThatAreNoNodes(t *testing.T) {
	wantParts(t, [][]int{{2, 1, -1}, {math.MaxInt, math.MinInt}}, []int{1}, []int{0})
	wantParts(t, [][]int{{1}}, []int{0})
	wantParts(t, [][]int{{-1}, {2}}, []int{0}, []int{1})
}

// P17.1: a node may occur more than once.
func TestRepeatedEdges(t *testing.T) {
	wantParts(t, [][]int{{1, 1, 1}, {}}, []int{1}, []int{0})
	wantParts(t, [][]int{{1, 1}, {0, 0}, {0, 1, 0}}, []int{0, 1}, []int{2})
	wantParts(t, [][]int{{0, 0}, {2, 0, 2, 0}, {}}, []int{0}, []int{2}, []int{1})
}

// P17.1: a component comes after all others that its nodes lead to, at once or
// by way of others.
func TestTopologicalOrder(t *testing.T) {
	wantParts(t, [][]int{{1}, {2}, {3}, {}}, []int{3}, []int{2}, []int{1}, []int{0})
	wantParts(t, [][]int{{}, {0}, {1}, {2}}, []int{0}, []int{1}, []int{2}, []int{3})
	wantParts(t, [][]int{{1, 2}, {3}, {3}, {}}, []int{3}, []int{1}, []int{2}, []int{0})
	// It is the node 4 of the component of 0 that leads to another one.
	wantParts(t, [][]int{{4}, {}, {1}, {}, {0, 2}}, []int{1}, []int{2}, []int{0, 4}, []int{3})
}

// P17.1: of the components that could be next, the one with the smallest node is:
// also if it could not be next before, and also if its other nodes are great.
func TestSmallestNodeFirst(t *testing.T) {
	wantParts(t, [][]int{{2}, {}, {}, {}}, []int{1}, []int{2}, []int{0}, []int{3})
	wantParts(t, [][]int{{3}, {}, {}, {}, {}}, []int{1}, []int{2}, []int{3}, []int{0}, []int{4})
	wantParts(t, [][]int{{5}, {}, {}, {}, {}, {0}}, []int{0, 5}, []int{1}, []int{2}, []int{3}, []int{4})
	wantParts(t, [][]int{{2, 1}, {4}, {}, {0}, {1}}, []int{1, 4}, []int{2}, []int{0}, []int{3})
}

// P17.1: it terminates however long the paths are.
func TestLongPaths(t *testing.T) {
	const n = 1 << 20
	down, up, ring := make([][]int, n), make([][]int, n), make([][]int, n)
	for i := range n {
		down[i] = []int{i - 1}
		up[i] = []int{i + 1}
		ring[i] = []int{(i + 1) % n}
	}
	for i, part := range graph.Components(down) {
		if len(part) != 1 || part[0] != i {
			t.Fatalf("down a path, component %d is %v", i, part)
		}
	}
	for i, part := range graph.Components(up) {
		if len(part) != 1 || part[0] != n-1-i {
			t.Fatalf("up a path, component %d is %v", i, part)
		}
	}
	if got := graph.Components(ring); len(got) != 1 || len(got[0]) != n || !slices.IsSorted(got[0]) {
		t.Errorf("a ring has %d components", len(got))
	}
}

// reaches returns whether each node can reach each other one by one edge or more.
func reaches(edges [][]int) [][]bool {
	can := make([][]bool, len(edges))
	for a := range edges {
		can[a] = make([]bool, len(edges))
		for b := range edges {
			can[a][b] = slices.Contains(edges[a], b)
		}
	}
	for by := range edges {
		for a := range edges {
			for b := range edges {
				can[a][b] = can[a][b] || can[a][by] && can[by][b]
			}
		}
	}
	return can
}

// defined returns the components as the document defines them.
func defined(edges [][]int) [][]int {
	can := reaches(edges)
	var parts [][]int // in ascending order of their smallest nodes
	for a := range edges {
		var part []int
		for b := range edges {
			if a == b || can[a][b] && can[b][a] {
				part = append(part, b)
			}
		}
		if part[0] == a {
			parts = append(parts, part)
		}
	}
	var list [][]int
	placed := map[int]bool{}
	for len(list) < len(parts) {
		at := slices.IndexFunc(parts, func(part []int) bool {
			if placed[part[0]] {
				return false
			}
			for b := range edges {
				if can[part[0]][b] && !placed[b] && !slices.Contains(part, b) {
					return false
				}
			}
			return true
		})
		for _, n := range parts[at] {
			placed[n] = true
		}
		list = append(list, parts[at])
	}
	return list
}

// randomEdges returns a graph of up to 9 nodes, some of whose edges lead nowhere.
func randomEdges(r *rand.Rand) [][]int {
	edges := make([][]int, r.Intn(10))
	many := 1 + r.Intn(3)
	for n := range edges {
		for range r.Intn(many + 1) {
			edges[n] = append(edges[n], r.Intn(len(edges)+2)-1)
		}
	}
	return edges
}

// P17.1: random graphs have the components of the definition, in its order.
func TestRandomGraphs(t *testing.T) {
	r := rand.New(rand.NewSource(1))
	several, joined := 0, 0
	for range 20000 {
		edges := randomEdges(r)
		want := defined(edges)
		wantParts(t, edges, want...)
		if len(want) > 2 {
			several++
			if len(want) < len(edges) {
				joined++
			}
		}
	}
	if several < 5000 || joined < 2000 {
		t.Errorf("only %d graphs have three components, and %d of them one of several nodes", several, joined)
	}
}

// P17.2: a node loops if it occurs in its own list.
func TestLoops(t *testing.T) {
	edges := [][]int{{0}, {0, 2, 1, 1}, {1, 0}, nil, {5, -1}}
	for n, want := range []bool{true, true, false, false, false} {
		if got := graph.Loops(edges, n); got != want {
			t.Errorf("Loops(%v, %d) = %v", edges, n, got)
		}
	}
}

// P17.2: a number that is no node does not loop, even if it occurs in a list.
func TestLoopsOfNoNode(t *testing.T) {
	edges := [][]int{{-1, 1, 2}}
	for _, n := range []int{-1, 1, 2, math.MaxInt, math.MinInt} {
		if graph.Loops(edges, n) || graph.Loops(nil, n) {
			t.Errorf("%d loops", n)
		}
	}
	if graph.Loops(nil, 0) {
		t.Error("0 loops in a graph without nodes")
	}
}

// Rule 3: arguments are not modified, and results do not share memory with each
// other.
func TestSeparateResults(t *testing.T) {
	edges := [][]int{{2, 1}, {0}, {0, 5, 3}, {4}, {3, 3}, {}}
	before := [][]int{{2, 1}, {0}, {0, 5, 3}, {4}, {3, 3}, {}}
	want := [][]int{{3, 4}, {5}, {0, 1, 2}}
	first := graph.Components(edges)
	for i := range first {
		_ = append(first[i], -7)
		for j := range first[i] {
			first[i][j] += 100 * (i + 1)
		}
	}
	for i, part := range [][]int{{103, 104}, {205}, {300, 301, 302}} {
		if !slices.Equal(first[i], part) {
			t.Errorf("component %d is now %v", i, first[i])
		}
	}
	if !reflect.DeepEqual(edges, before) {
		t.Errorf("the edges are now %v", edges)
	}
	wantParts(t, edges, want...)
}
