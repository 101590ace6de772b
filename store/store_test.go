package store_test

import (
	"math"
	"math/rand"
	"slices"
	"testing"

	"ergo/segment"
	"ergo/store"
)

// rel returns the relation of some rows of one width.
func rel(width int, rows ...[]int64) *segment.Seg {
	return segment.Make(width, rows)
}

// ones returns the relation of rows with one element each.
func ones(list ...int64) *segment.Seg {
	var rows [][]int64
	for _, n := range list {
		rows = append(rows, []int64{n})
	}
	return segment.Make(1, rows)
}

// checkRel checks that a relation has exactly the rows of another one, and its width.
func checkRel(t *testing.T, name string, got, want *segment.Seg) {
	t.Helper()
	if got.Width() != want.Width() || !got.Same(want) {
		t.Fatalf("%s = %v of width %d, want %v of width %d", name, slices.Collect(got.All()), got.Width(), slices.Collect(want.All()), want.Width())
	}
}

// checkStep checks what Step returns.
func checkStep(t *testing.T, s *store.Store, rows *segment.Seg, want int) {
	t.Helper()
	if got := s.Step(rows); got != want {
		t.Fatalf("Step(%v) = %d, want %d", slices.Collect(rows.All()), got, want)
	}
}

// checkStore checks all rows of a store, those that were added last, and the
// number of runs.
func checkStore(t *testing.T, s *store.Store, full, delta *segment.Seg, runs int) {
	t.Helper()
	checkRel(t, "Full()", s.Full(), full)
	checkRel(t, "Delta()", s.Delta(), delta)
	if got := s.Len(); got != full.Len() {
		t.Fatalf("Len() = %d, want %d", got, full.Len())
	}
	if got := s.Runs(); got != runs {
		t.Fatalf("Runs() = %d, want %d", got, runs)
	}
	for row := range full.All() {
		if !s.Has(row) {
			t.Fatalf("Has(%v) = false", row)
		}
	}
}

// checkNot checks that a row is not there.
func checkNot(t *testing.T, s *store.Store, row []int64) {
	t.Helper()
	if s.Has(row) {
		t.Fatalf("Has(%v) = true", row)
	}
}

// P11.1: a new store is empty, whatever its width and its bound of runs.
func TestNew(t *testing.T) {
	for _, width := range []int{0, 1, 3, 1 << 40, math.MaxInt, -1, math.MinInt} {
		for _, most := range []int{0, 1, 7, math.MaxInt, -1, math.MinInt} {
			s := store.New(width, most)
			none := rel(max(width, 0))
			checkStore(t, s, none, none, 0)
			checkNot(t, s, nil)
			checkNot(t, s, []int64{0})
			s.Compact()
			checkStore(t, s, none, none, 0)
		}
	}
}

// P11.1: the example of the chapter.
func TestStep(t *testing.T) {
	s := store.New(1, 0)
	checkStep(t, s, ones(1, 2), 2)
	checkStore(t, s, ones(1, 2), ones(1, 2), 1)
	checkStep(t, s, ones(2, 3), 1)
	checkStore(t, s, ones(1, 2, 3), ones(3), 2)
	checkNot(t, s, []int64{0})
	checkNot(t, s, []int64{4})
}

// P11.1, P11.2: a step without new rows leaves a Delta without rows, and no run.
func TestNothingNew(t *testing.T) {
	s := store.New(2, 0)
	rows := rel(2, []int64{1, 2}, []int64{3, 4})
	for _, none := range []*segment.Seg{nil, rel(2), rel(0), rel(1), rel(7)} {
		checkStep(t, s, none, 0)
		checkStore(t, s, rel(2), rel(2), 0)
	}
	checkStep(t, s, rows, 2)
	for _, none := range []*segment.Seg{rows, nil, rel(2, []int64{3, 4}), rel(2), rel(5)} {
		checkStep(t, s, none, 0)
		checkStore(t, s, rows, rel(2), 1)
	}
}

// P11.1: rows of another width are not added.
func TestOtherWidth(t *testing.T) {
	s := store.New(2, 0)
	rows := rel(2, []int64{1, 2})
	for _, other := range []*segment.Seg{rel(0, []int64{}), ones(1), rel(3, []int64{1, 2, 3})} {
		checkStep(t, s, other, 0)
		checkStore(t, s, rel(2), rel(2), 0)
	}
	checkStep(t, s, rows, 1)
	for _, other := range []*segment.Seg{rel(0, []int64{}), ones(1), rel(3, []int64{1, 2, 3})} {
		checkStep(t, s, other, 0)
		checkStore(t, s, rows, rel(2), 1)
	}
	for _, row := range [][]int64{nil, {}, {1}, {1, 2, 3}, {2, 1}} {
		checkNot(t, s, row)
	}
}

// P11.1: a store of width 0 has the empty row or none; a width below 0 is 0.
func TestWidthNone(t *testing.T) {
	for _, s := range []*store.Store{store.New(0, 0), store.New(-3, 1), new(store.Store)} {
		checkStep(t, s, rel(0), 0)
		checkNot(t, s, []int64{})
		checkStep(t, s, ones(1), 0)
		checkStep(t, s, rel(0, []int64{}), 1)
		checkStore(t, s, rel(0, []int64{}), rel(0, []int64{}), 1)
		checkStep(t, s, rel(0, []int64{}), 0)
		checkStore(t, s, rel(0, []int64{}), rel(0), 1)
		checkNot(t, s, []int64{0})
		s.Set(nil, nil)
		checkStore(t, s, rel(0), rel(0), 0)
		checkStep(t, s, rel(0, []int64{}), 1)
	}
}

// P11.1: rows that differ in one element only, at any of its bytes, are different.
func TestCloseRows(t *testing.T) {
	s := store.New(2, 3)
	var all [][]int64
	for _, n := range []int64{0, 1, -1, math.MinInt64, math.MaxInt64, 1 << 8, 1 << 16, 1 << 24, 1 << 32, 1 << 40, 1 << 48, 1 << 56, 255} {
		for _, row := range [][]int64{{n, 5}, {5, n}} {
			all = append(all, row)
			checkStep(t, s, rel(2, row), 1)
			checkStep(t, s, rel(2, row), 0)
		}
	}
	checkRel(t, "Full()", s.Full(), segment.Make(2, all))
	if s.Len() != len(all) {
		t.Errorf("Len() = %d, want %d", s.Len(), len(all))
	}
}

// P11.2: one more run than the bound, and all are one.
func TestMost(t *testing.T) {
	for _, test := range []struct {
		most int
		runs []int // after one step, two steps and so on
	}{
		{0, []int{1, 2, 3, 4, 5, 6, 7}},
		{-1, []int{1, 2, 3, 4, 5, 6, 7}},
		{math.MinInt, []int{1, 2, 3, 4, 5, 6, 7}},
		{1, []int{1, 1, 1, 1, 1, 1, 1}},
		{2, []int{1, 2, 1, 2, 1, 2, 1}},
		{3, []int{1, 2, 3, 1, 2, 3, 1}},
		{6, []int{1, 2, 3, 4, 5, 6, 1}},
		{7, []int{1, 2, 3, 4, 5, 6, 7}},
		{math.MaxInt, []int{1, 2, 3, 4, 5, 6, 7}},
	} {
		s := store.New(1, test.most)
		full := ones()
		for i, runs := range test.runs {
			// Descending, so that a run is not the end of all rows.
			delta := ones(int64(-i), int64(100-i))
			full = full.Or(delta)
			checkStep(t, s, delta, 2)
			checkStore(t, s, full, delta, runs)
			checkStep(t, s, delta, 0)
			checkStore(t, s, full, ones(), runs)
		}
	}
}

// P11.2: Compact leaves one run, the same rows, and the same Delta.
func TestCompact(t *testing.T) {
	s := store.New(1, 0)
	for i := int64(9); i > 0; i-- {
		s.Step(ones(i, 10*i))
	}
	full := s.Full()
	checkStore(t, s, full, ones(1, 10), 9)
	for range 2 {
		s.Compact()
		checkStore(t, s, full, ones(1, 10), 1)
	}
	checkStep(t, s, ones(0, 1, 90), 1)
	checkStore(t, s, full.Or(ones(0)), ones(0), 2)
}

// P11.2: Set replaces the rows, the runs and Delta.
func TestSet(t *testing.T) {
	s := store.New(1, 2)
	s.Step(ones(1))
	s.Step(ones(2))
	s.Set(ones(3, 5), ones(5))
	checkStore(t, s, ones(3, 5), ones(5), 1)
	checkNot(t, s, []int64{1})
	checkNot(t, s, []int64{2})
	checkStep(t, s, ones(1, 3), 1)
	checkStore(t, s, ones(1, 3, 5), ones(1), 2)
	checkStep(t, s, ones(4), 1)
	checkStore(t, s, ones(1, 3, 4, 5), ones(4), 1)
	s.Set(ones(), ones())
	checkStore(t, s, ones(), ones(), 0)
	checkStep(t, s, ones(1, 4), 2)
	checkStore(t, s, ones(1, 4), ones(1, 4), 1)
	s.Set(ones(7), ones())
	checkStore(t, s, ones(7), ones(), 1)
	s.Set(nil, nil)
	checkStore(t, s, ones(), ones(), 0)
	s.Set(ones(7), ones(7))
	s.Compact()
	checkStore(t, s, ones(7), ones(7), 1)
	checkStep(t, s, ones(7), 0)
	checkStore(t, s, ones(7), ones(), 1)
}

// P11.2: Delta need not be a part of Full, and its rows are not there then.
func TestSetOtherDelta(t *testing.T) {
	s := store.New(1, 0)
	s.Set(ones(1), ones(8, 9))
	checkStore(t, s, ones(1), ones(8, 9), 1)
	checkNot(t, s, []int64{8})
	checkStep(t, s, ones(8), 1)
	checkStore(t, s, ones(1, 8), ones(8), 2)
}

// Rows of another width do not get into a store, by Set either.
func TestSetOtherWidth(t *testing.T) {
	for _, other := range []*segment.Seg{rel(0, []int64{}), rel(2, []int64{1, 2}), rel(2), rel(1 << 40)} {
		s := store.New(1, 1)
		s.Step(ones(1))
		s.Set(other, other)
		checkStore(t, s, ones(), ones(), 0)
		checkStep(t, s, ones(1), 1)
		checkStore(t, s, ones(1), ones(1), 1)
	}
}

// Rules 3 and 4: what was returned, and what was passed, stays as it is.
func TestSeparate(t *testing.T) {
	s := store.New(1, 2)
	first, second := ones(3, 1), ones(1, 2)
	s.Step(first)
	one, oneDelta := s.Full(), s.Delta()
	s.Step(second)
	two, twoDelta := s.Full(), s.Delta()
	s.Step(ones(9))
	s.Set(ones(5), ones(5))
	s.Step(ones(6))
	s.Compact()
	checkRel(t, "the first argument", first, ones(1, 3))
	checkRel(t, "the second argument", second, ones(1, 2))
	checkRel(t, "the first Full", one, ones(1, 3))
	checkRel(t, "the first Delta", oneDelta, ones(1, 3))
	checkRel(t, "the second Full", two, ones(1, 2, 3))
	checkRel(t, "the second Delta", twoDelta, ones(2))
	row := []int64{5}
	if !s.Has(row) || row[0] != 5 {
		t.Errorf("Has changes its argument to %v", row)
	}
}

// A store may be given its own relations.
func TestOwnRelations(t *testing.T) {
	s := store.New(1, 0)
	s.Step(ones(1, 2))
	checkStep(t, s, s.Full(), 0)
	s.Step(ones(3))
	checkStep(t, s, s.Delta(), 0)
	checkStep(t, s, s.Full().Or(ones(4)), 1)
	s.Set(s.Full(), s.Delta())
	checkStore(t, s, ones(1, 2, 3, 4), ones(4), 1)
}

// P11.1, P11.2: there may be as many runs as steps, and each step looks for its
// rows in all of them.
func TestManyRuns(t *testing.T) {
	const steps = 100000
	s := store.New(1, 0)
	for i := range int64(steps) {
		checkStep(t, s, ones(i-1, i), 1+int(max(1-i, 0)))
	}
	if s.Runs() != steps || s.Len() != steps+1 || s.Full().Len() != steps+1 {
		t.Errorf("%d runs and %d rows", s.Runs(), s.Len())
	}
}

// model is a store by its promises: sets of rows, and the number of runs.
type model struct {
	most, runs  int
	full, delta *segment.Seg
}

// step is Step.
func (m *model) step(rows *segment.Seg) int {
	m.delta = rows.Minus(m.full)
	m.full = m.full.Or(m.delta)
	if m.delta.Len() > 0 {
		m.runs++
	}
	if m.most > 0 && m.runs > m.most {
		m.runs = 1
	}
	return m.delta.Len()
}

// some returns a relation of random rows.
func some(r *rand.Rand, width int) *segment.Seg {
	rows := make([][]int64, r.Intn(8))
	for i := range rows {
		for range width {
			rows[i] = append(rows[i], int64(r.Intn(6)-2))
		}
	}
	return segment.Make(width, rows)
}

// P11.1, P11.2: random operations, with any bound of runs at once, on which the
// other results do not depend.
func TestRandom(t *testing.T) {
	r := rand.New(rand.NewSource(11))
	for range 300 {
		width := r.Intn(4)
		var stores []*store.Store
		var models []*model
		for most := range 5 {
			stores = append(stores, store.New(width, most))
			models = append(models, &model{most: most, full: rel(width), delta: rel(width)})
		}
		for range 20 {
			op, a, b := r.Intn(10), some(r, width), some(r, width)
			for i, s := range stores {
				act(t, op, s, models[i], a, b)
				checkStore(t, s, models[i].full, models[i].delta, models[i].runs)
				for row := range b.Minus(models[i].full).All() {
					checkNot(t, s, row)
				}
			}
		}
	}
}

// act does one operation on a store and on its model.
func act(t *testing.T, op int, s *store.Store, m *model, a, b *segment.Seg) {
	t.Helper()
	switch op {
	case 0:
		s.Compact()
		m.runs = min(m.runs, 1)
	case 1:
		s.Set(a, b)
		m.full, m.delta, m.runs = a, b, min(a.Len(), 1)
	default:
		checkStep(t, s, a, m.step(a))
	}
}
