package merge_test

import (
	"math"
	"math/rand"
	"slices"
	"testing"

	"ergo/merge"
	"ergo/segment"
)

// thing has a weight, by which heaps order it, and a name, which they do not look at.
type thing struct{ weight, name int }

func lighter(a, b thing) bool { return a.weight < b.weight }

func below(a, b int) bool { return a < b }

// checkPops checks that the heap has exactly these elements, in the order of Pop.
func checkPops[T comparable](t *testing.T, h *merge.Heap[T], want ...T) {
	t.Helper()
	for i, w := range want {
		if got := h.Len(); got != len(want)-i {
			t.Fatalf("Len() = %d, want %d", got, len(want)-i)
		}
		if got, ok := h.Pop(); got != w || !ok {
			t.Fatalf("Pop() = %v %v, want %v true", got, ok, w)
		}
	}
	var zero T
	for range 2 {
		if got, ok := h.Pop(); got != zero || ok || h.Len() != 0 {
			t.Fatalf("Pop() = %v %v, want the zero value and false", got, ok)
		}
	}
}

// pushed returns a heap with these numbers.
func pushed(list ...int) *merge.Heap[int] {
	h := merge.NewHeap(below)
	for _, n := range list {
		h.Push(n)
	}
	return h
}

// P6.1: a new heap is empty; Pop returns what was pushed, the least first.
func TestHeap(t *testing.T) {
	checkPops(t, merge.NewHeap(below))
	checkPops(t, pushed(3, 1, 2), 1, 2, 3)
	checkPops(t, pushed(7), 7)
	checkPops(t, pushed(0, -1, math.MinInt, math.MaxInt, 0), math.MinInt, -1, 0, 0, math.MaxInt)
	words := merge.NewHeap(func(a, b string) bool { return a < b })
	words.Push("b")
	words.Push("")
	words.Push("ab")
	checkPops(t, words, "", "ab", "b")
	// The order is that of less, whatever it is.
	down := merge.NewHeap(func(a, b int) bool { return a > b })
	for _, n := range []int{3, 1, 2} {
		down.Push(n)
	}
	checkPops(t, down, 3, 2, 1)
}

// P6.1: a heap can be used again after it became empty.
func TestHeapAgain(t *testing.T) {
	h := pushed(2, 1)
	checkPops(t, h, 1, 2)
	h.Push(5)
	h.Push(4)
	checkPops(t, h, 4, 5)
}

// P6.1: of equivalent elements the one that was pushed first is popped first.
func TestHeapOfEquivalents(t *testing.T) {
	h := merge.NewHeap(lighter)
	for i, weight := range []int{3, 1, 2, 1, 3, 1, 2} {
		h.Push(thing{weight, i})
	}
	checkPops(t, h, thing{1, 1}, thing{1, 3}, thing{1, 5}, thing{2, 2}, thing{2, 6}, thing{3, 0}, thing{3, 4})
	queue := merge.NewHeap(func(a, b int) bool { return false })
	var want []int
	for i := range 100 {
		queue.Push(99 - i)
		want = append(want, 99-i)
	}
	checkPops(t, queue, want...)
}

// P6.1: every order of pushing a few numbers.
func TestHeapOfAllOrders(t *testing.T) {
	var visit func(head, rest []int)
	visit = func(head, rest []int) {
		if len(rest) == 0 {
			checkPops(t, pushed(head...), 0, 1, 2, 3, 4, 5, 6)
		}
		for i, n := range rest {
			visit(append(slices.Clone(head), n), slices.Delete(slices.Clone(rest), i, i+1))
		}
	}
	visit(nil, []int{0, 1, 2, 3, 4, 5, 6})
}

// P6.1: mixed pushes and pops agree with a list that is kept sorted, stably.
func TestHeapOfManyElements(t *testing.T) {
	r := rand.New(rand.NewSource(1))
	for range 200 {
		h := merge.NewHeap(lighter)
		var list []thing
		weights := 1 + r.Intn(20)
		for i := range 200 {
			if r.Intn(5) < 3 {
				v := thing{r.Intn(weights), i}
				h.Push(v)
				at := len(list)
				for at > 0 && v.weight < list[at-1].weight {
					at--
				}
				list = slices.Insert(list, at, v)
				continue
			}
			got, ok := h.Pop()
			if ok != (len(list) > 0) || ok && got != list[0] || !ok && got != (thing{}) {
				t.Fatalf("Pop() = %v %v of %v", got, ok, list)
			}
			list = list[min(1, len(list)):]
		}
		checkPops(t, h, list...)
	}
}

// P6.1: two heaps have nothing in common.
func TestHeapsAreSeparate(t *testing.T) {
	a, b := pushed(1, 2), pushed(0)
	checkPops(t, a, 1, 2)
	checkPops(t, b, 0)
}

// Rule 1 excludes only a nil Heap: one that NewHeap did not make must not panic.
func TestZeroHeap(t *testing.T) {
	var h merge.Heap[int]
	checkPops(t, &h)
	for _, n := range []int{3, 1, 2} {
		h.Push(n)
	}
	checkPops(t, &h, 3, 1, 2)
}

// rel returns the relation of some rows of one width.
func rel(width int, rows ...[]int64) *segment.Seg {
	return segment.Make(width, rows)
}

// checkRows checks which rows there are, in order.
func checkRows(t *testing.T, name string, got [][]int64, want ...[]int64) {
	t.Helper()
	if !slices.EqualFunc(got, want, slices.Equal) {
		t.Errorf("%s: %v, want %v", name, got, want)
	}
}

// P6.2: Rows merges, and repeats what occurs in several relations.
func TestRows(t *testing.T) {
	a := rel(1, []int64{1}, []int64{4})
	b := rel(1, []int64{1}, []int64{2}, []int64{math.MinInt64})
	cases := []struct {
		name string
		list []*segment.Seg
		want [][]int64
	}{
		{"no relations", nil, nil},
		{"nil", []*segment.Seg{nil}, nil},
		{"no rows", []*segment.Seg{rel(2), nil, {}, rel(0)}, nil},
		{"one", []*segment.Seg{a}, [][]int64{{1}, {4}}},
		{"two", []*segment.Seg{a, b}, [][]int64{{math.MinInt64}, {1}, {1}, {2}, {4}}},
		{"two and some without rows", []*segment.Seg{nil, b, rel(7), a}, [][]int64{{math.MinInt64}, {1}, {1}, {2}, {4}}},
		{"one three times", []*segment.Seg{a, a, a}, [][]int64{{1}, {1}, {1}, {4}, {4}, {4}}},
		{"one after another", []*segment.Seg{rel(1, []int64{5}, []int64{6}), rel(1, []int64{1}, []int64{2})}, [][]int64{{1}, {2}, {5}, {6}}},
		{"prefixes", []*segment.Seg{rel(2, []int64{1, -5}, []int64{0, 9}), a, rel(3, []int64{1, -5, 0}, []int64{4, 0, 0}), rel(0, []int64{})},
			[][]int64{{}, {0, 9}, {1}, {1, -5}, {1, -5, 0}, {4}, {4, 0, 0}}},
		{"empty rows", []*segment.Seg{rel(0, []int64{}), nil, rel(0, []int64{})}, [][]int64{{}, {}}},
	}
	for _, c := range cases {
		checkRows(t, c.name, slices.Collect(merge.Rows(c.list...)), c.want...)
	}
}

// P6.2: Rows stops when its user does, and starts again from the first row.
func TestRowsStop(t *testing.T) {
	all := merge.Rows(rel(1, []int64{1}, []int64{3}), rel(1, []int64{2}, []int64{3}))
	for n := range 5 {
		var got [][]int64
		for row := range all {
			if len(got) == n {
				break
			}
			got = append(got, row)
		}
		checkRows(t, "the first rows", got, [][]int64{{1}, {2}, {3}, {3}}[:n]...)
	}
}

// Rule 3: neither the list of relations nor what a user does to rows has an effect.
func TestRowsKeepNothing(t *testing.T) {
	a, b := rel(1, []int64{1}, []int64{3}), rel(1, []int64{1}, []int64{2})
	list := []*segment.Seg{a, b, a}
	all := merge.Rows(list...)
	list[0], list[2] = nil, rel(1, []int64{7})
	for range 2 {
		var got [][]int64
		for row := range all {
			got = append(got, row)
		}
		checkRows(t, "after a change of the list", got, []int64{1}, []int64{1}, []int64{1}, []int64{2}, []int64{3}, []int64{3})
		for _, row := range got {
			row[0] += 100
		}
		checkRows(t, "after a change of rows", got, []int64{101}, []int64{101}, []int64{101}, []int64{102}, []int64{103}, []int64{103})
	}
	for row := range all {
		row[0] = 50
	}
	checkRows(t, "the relation", slices.Collect(a.All()), []int64{1}, []int64{3})
}

// P6.2: All keeps the rows of one width, each once.
func TestAll(t *testing.T) {
	a, b := rel(1, []int64{1}, []int64{4}), rel(1, []int64{2}, []int64{1})
	two, empty := rel(2, []int64{4, 4}, []int64{1, 1}), rel(0, []int64{})
	cases := []struct {
		name  string
		width int
		list  []*segment.Seg
		want  [][]int64
	}{
		{"one", 1, []*segment.Seg{a}, [][]int64{{1}, {4}}},
		{"two", 1, []*segment.Seg{a, b, nil}, [][]int64{{1}, {2}, {4}}},
		{"width 1", 1, []*segment.Seg{two, b, empty, a, a}, [][]int64{{1}, {2}, {4}}},
		{"width 2", 2, []*segment.Seg{two, b, empty, a, two}, [][]int64{{1, 1}, {4, 4}}},
		{"width 0", 0, []*segment.Seg{two, b, empty, a, empty}, [][]int64{{}}},
		{"width 0 without the empty row", 0, []*segment.Seg{two, b, nil}, nil},
		{"width 3", 3, []*segment.Seg{two, b, empty, a}, nil},
		{"no relations", 2, nil, nil},
		{"no rows", 2, []*segment.Seg{nil, rel(2), rel(1)}, nil},
		{"a huge width", math.MaxInt, []*segment.Seg{a, two, empty}, nil},
	}
	for _, c := range cases {
		s := merge.All(c.width, c.list...)
		checkRows(t, c.name, slices.Collect(s.All()), c.want...)
		if s.Width() != c.width || s.Len() != len(c.want) {
			t.Errorf("%s: width %d and %d rows", c.name, s.Width(), s.Len())
		}
	}
	for _, width := range []int{-1, math.MinInt} {
		if got := merge.All(width, a, empty, nil).Len(); got != 0 {
			t.Errorf("All of the width %d has %d rows", width, got)
		}
	}
}

// P6.2: Rows and All agree with sorting all rows.
func TestRowsOfManyRelations(t *testing.T) {
	r := rand.New(rand.NewSource(2))
	for range 500 {
		var list []*segment.Seg
		var rows [][]int64
		for range r.Intn(8) {
			s := randomRel(r, r.Intn(4))
			list = append(list, s)
			rows = append(rows, slices.Collect(s.All())...)
		}
		slices.SortFunc(rows, slices.Compare)
		checkRows(t, "Rows", slices.Collect(merge.Rows(list...)), rows...)
		for width := range 5 {
			want := segment.Make(width, rows)
			if got := merge.All(width, list...); !got.Same(want) || got.Width() != width {
				t.Fatalf("All(%d) = %v, want %v", width, slices.Collect(got.All()), slices.Collect(want.All()))
			}
		}
	}
}

// randomRel returns rows of few different numbers, so that relations have some in common.
func randomRel(r *rand.Rand, width int) *segment.Seg {
	var rows [][]int64
	for range r.Intn(20) {
		row := make([]int64, width)
		for k := range row {
			row[k] = int64(r.Intn(4) - 1)
		}
		rows = append(rows, row)
	}
	return segment.Make(width, rows)
}
