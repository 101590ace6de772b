package segment_test

import (
	"math"
	"math/rand"
	"slices"
	"testing"

	"ergo/segment"
)

const least, most = math.MinInt64, math.MaxInt64

// outside are indices and positions that no small relation has.
var outside = []int{-1, -2, 1000, math.MinInt, math.MaxInt}

// rel returns the relation of some rows of one width.
func rel(width int, rows ...[]int64) *segment.Seg {
	return segment.Make(width, rows)
}

// checkRel checks the width of a relation, and that it has exactly these rows,
// by each of the methods that return them.
func checkRel(t *testing.T, name string, s *segment.Seg, width int, rows ...[]int64) {
	t.Helper()
	if s.Width() != width || s.Len() != len(rows) {
		t.Fatalf("%s: width %d and %d rows %v, want %d and %v", name, s.Width(), s.Len(), slices.Collect(s.All()), width, rows)
	}
	if got := slices.Collect(s.All()); !slices.EqualFunc(got, rows, slices.Equal) {
		t.Fatalf("%s: All has %v, want %v", name, got, rows)
	}
	for i, row := range rows {
		if got := s.Row(i); !slices.Equal(got, row) {
			t.Fatalf("%s: Row(%d) = %v, want %v", name, i, got, row)
		}
	}
	for k := range min(width, 10) {
		var want []int64
		for _, row := range rows {
			want = append(want, row[k])
		}
		if got := s.Col(k); !slices.Equal(got, want) {
			t.Fatalf("%s: Col(%d) = %v, want %v", name, k, got, want)
		}
	}
}

// modelOf returns what Make must make of rows: those of the width, sorted by
// insertion, none twice.
func modelOf(width int, rows [][]int64) [][]int64 {
	var model [][]int64
	for _, row := range rows {
		i := 0
		for i < len(model) && slices.Compare(model[i], row) < 0 {
			i++
		}
		if len(row) == width && !(i < len(model) && slices.Equal(model[i], row)) {
			model = slices.Insert(model, i, row)
		}
	}
	return model
}

// contains tells whether row is among rows.
func contains(rows [][]int64, row []int64) bool {
	return slices.ContainsFunc(rows, func(r []int64) bool { return slices.Equal(r, row) })
}

// randomRows returns rows of few different numbers, so that many occur again.
func randomRows(r *rand.Rand, width, count int) [][]int64 {
	rows := make([][]int64, r.Intn(count+1))
	for i := range rows {
		rows[i] = make([]int64, width)
		for k := range rows[i] {
			rows[i][k] = int64(r.Intn(4) - 1)
		}
	}
	return rows
}

func cloneRows(rows [][]int64) [][]int64 {
	var list [][]int64
	for _, row := range rows {
		list = append(list, slices.Clone(row))
	}
	return list
}

// P5.1: Make sorts, drops duplicates and rows of other widths.
func TestMake(t *testing.T) {
	cases := []struct {
		name  string
		width int
		rows  [][]int64
		want  [][]int64
	}{
		{"the chapter's example", 2, [][]int64{{2, 1}, {1, 5}, {2, 1}}, [][]int64{{1, 5}, {2, 1}}},
		{"other widths", 2, [][]int64{{3}, {2, 1}, {}, {1, 1, 1}, nil, {0, 9}}, [][]int64{{0, 9}, {2, 1}}},
		{"only other widths", 2, [][]int64{{3}, {1, 2, 3}, nil}, nil},
		{"width 1", 1, [][]int64{{5}, {-5}, {0}, {5}}, [][]int64{{-5}, {0}, {5}}},
		{"extremes", 1, [][]int64{{most}, {0}, {least}, {-1}, {most - 1}}, [][]int64{{least}, {-1}, {0}, {most - 1}, {most}}},
		{"the first element counts first", 3, [][]int64{{2, 0, 0}, {1, 9, 0}, {1, 8, 9}, {1, 8, -9}}, [][]int64{{1, 8, -9}, {1, 8, 9}, {1, 9, 0}, {2, 0, 0}}},
		{"all equal", 2, [][]int64{{4, 4}, {4, 4}, {4, 4}}, [][]int64{{4, 4}}},
		{"no rows", 3, nil, nil},
		{"no rows, empty list", 3, [][]int64{}, nil},
		{"width 0, the empty row", 0, [][]int64{{}}, [][]int64{{}}},
		{"width 0, the empty row twice", 0, [][]int64{{}, {1}, nil}, [][]int64{{}}},
		{"width 0, without the empty row", 0, [][]int64{{1}, {1, 2}}, nil},
		{"width 0, no rows", 0, nil, nil},
	}
	for _, c := range cases {
		checkRel(t, c.name, segment.Make(c.width, c.rows), c.width, c.want...)
	}
}

// P5.1: a width below 0 leaves no rows, not even empty ones.
func TestMakeOfNegativeWidth(t *testing.T) {
	for _, width := range []int{-1, -2, math.MinInt} {
		checkRel(t, "negative width", segment.Make(width, [][]int64{{}, {1}, {1, 2}, nil}), 0)
	}
}

// A width that no row has must need no memory of that size.
func TestMakeOfHugeWidth(t *testing.T) {
	for _, width := range []int{1 << 40, math.MaxInt} {
		s := segment.Make(width, [][]int64{{1}, {}})
		checkRel(t, "huge width", s, width)
		checkRel(t, "And", s.And(rel(1, []int64{1})), width)
		checkRel(t, "Minus", s.Minus(s), width)
		checkRel(t, "Or", s.Or(rel(1, []int64{1})), 1, []int64{1})
		checkRel(t, "Project", s.Project(0, width-1, width), 2)
		if a, b := s.Prefix([]int64{1}); a != 0 || b != 0 || s.Has([]int64{1}) || s.Has(nil) || !s.Same(nil) {
			t.Error("a relation without rows has a row")
		}
	}
}

// P5.1: Make agrees with sorting by insertion, and leaves its argument alone.
func TestMakeOfManyRows(t *testing.T) {
	r := rand.New(rand.NewSource(1))
	for range 1000 {
		width := r.Intn(4)
		rows := append(randomRows(r, width, 30), randomRows(r, r.Intn(5), 5)...)
		r.Shuffle(len(rows), func(i, j int) { rows[i], rows[j] = rows[j], rows[i] })
		old := cloneRows(rows)
		s := segment.Make(width, rows)
		if !slices.EqualFunc(rows, old, slices.Equal) {
			t.Fatalf("Make changed its rows from %v to %v", old, rows)
		}
		checkRel(t, "random", s, width, modelOf(width, rows)...)
	}
}

// P5.1: nil is a relation of width 0 without rows, for every method; and so is
// one that Make did not make.
func TestNil(t *testing.T) {
	for _, s := range []*segment.Seg{nil, {}} {
		checkRel(t, "nil", s, 0)
		for _, i := range append([]int{0, 1}, outside...) {
			if len(s.Row(i)) != 0 || len(s.Col(i)) != 0 {
				t.Errorf("nil has a row or column %d", i)
			}
		}
		for _, p := range [][]int64{nil, {}, {1}, {1, 2}} {
			if a, b := s.Prefix(p); a != 0 || b != 0 || s.Has(p) {
				t.Errorf("nil: Prefix(%v) = %d %d, Has %v", p, a, b, s.Has(p))
			}
		}
		x, empty := rel(1, []int64{7}), rel(0, []int64{})
		checkRel(t, "nil or x", s.Or(x), 1, []int64{7})
		checkRel(t, "x or nil", x.Or(s), 1, []int64{7})
		checkRel(t, "nil or the empty row", s.Or(empty), 0, []int64{})
		checkRel(t, "the empty row or nil", empty.Or(s), 0, []int64{})
		checkRel(t, "nil or nil", s.Or(nil), 0)
		checkRel(t, "nil and x", s.And(x), 0)
		checkRel(t, "x and nil", x.And(s), 1)
		checkRel(t, "nil and the empty row", s.And(empty), 0)
		checkRel(t, "nil and nil", s.And(nil), 0)
		checkRel(t, "nil minus x", s.Minus(x), 0)
		checkRel(t, "x minus nil", x.Minus(s), 1, []int64{7})
		checkRel(t, "nil minus nil", s.Minus(nil), 0)
		checkRel(t, "nil projected", s.Project(0, 1), 0)
		checkRel(t, "nil projected to nothing", s.Project(), 0)
		if !s.Same(nil) || !s.Same(rel(3)) || !rel(3).Same(s) || s.Same(x) || x.Same(s) || s.Same(empty) || empty.Same(s) {
			t.Error("Same of nil")
		}
	}
}

// P5.1: there is nothing at indices and positions out of range.
func TestRowAndColOutOfRange(t *testing.T) {
	for _, s := range []*segment.Seg{rel(2, []int64{1, 2}, []int64{3, 4}), rel(2), rel(0, []int64{})} {
		for _, i := range append([]int{s.Len(), s.Len() + 1}, outside...) {
			if got := s.Row(i); len(got) != 0 {
				t.Errorf("Row(%d) = %v", i, got)
			}
		}
		for _, k := range append([]int{s.Width(), s.Width() + 1}, outside...) {
			if got := s.Col(k); len(got) != 0 {
				t.Errorf("Col(%d) = %v", k, got)
			}
		}
	}
}

// P5.1: All stops when its user does, and starts again from the first row.
func TestAllStops(t *testing.T) {
	s := rel(1, []int64{3}, []int64{1}, []int64{2})
	all := s.All()
	for n := range 4 {
		var got []int64
		for row := range all {
			if len(got) == n {
				break
			}
			got = append(got, row[0])
		}
		if !slices.Equal(got, []int64{1, 2, 3}[:n]) {
			t.Errorf("the first %d rows are %v", n, got)
		}
	}
}

// Rule 3: what is done to results and to arguments does not change a relation.
func TestImmutable(t *testing.T) {
	rows := [][]int64{{1, 2}, {3, 4}, {5, 6}}
	want := cloneRows(rows)
	s := segment.Make(2, rows)
	rows[0][0], rows[1] = 99, []int64{98, 97}
	checkRel(t, "after changes of the argument", s, 2, want...)
	s.Row(1)[0] = 99
	s.Col(0)[2] = 99
	var kept [][]int64
	for row := range s.All() {
		kept = append(kept, row)
		row[1]++
	}
	checkRel(t, "after changes of results", s, 2, want...)
	if !slices.EqualFunc(kept, [][]int64{{1, 3}, {3, 5}, {5, 7}}, slices.Equal) {
		t.Errorf("rows that All yielded became %v", kept)
	}
}

// Rule 3: relations that were made of one another stay as they are.
func TestRelationsAreSeparate(t *testing.T) {
	a := rel(1, []int64{1}, []int64{2}, []int64{3})
	b := a.Or(nil)
	c := a.Minus(rel(1, []int64{9}))
	d, e := b.Or(rel(1, []int64{4})), b.Or(rel(1, []int64{5}))
	f, g := c.Or(rel(1, []int64{6})), c.Or(rel(1, []int64{7}))
	for _, s := range []*segment.Seg{a, b, c} {
		checkRel(t, "the first ones", s, 1, []int64{1}, []int64{2}, []int64{3})
	}
	for i, s := range []*segment.Seg{d, e, f, g} {
		checkRel(t, "the later ones", s, 1, []int64{1}, []int64{2}, []int64{3}, []int64{int64(4 + i)})
	}
}

// P5.2: Prefix and Has, with the example of the chapter.
func TestPrefix(t *testing.T) {
	s := rel(2, []int64{2, 1}, []int64{1, 5}, []int64{2, 1})
	wide := rel(3, []int64{1, 1, 1}, []int64{1, 1, 3}, []int64{1, 2, 0}, []int64{3, 0, 0}, []int64{3, 0, most}, []int64{most, 0, 0})
	cases := []struct {
		s        *segment.Seg
		p        []int64
		from, to int
	}{
		{s, []int64{2}, 1, 2}, {s, []int64{1}, 0, 1}, {s, []int64{0}, 0, 0}, {s, []int64{3}, 2, 2},
		{s, nil, 0, 2}, {s, []int64{}, 0, 2},
		{s, []int64{1, 5}, 0, 1}, {s, []int64{1, 4}, 0, 0}, {s, []int64{1, 6}, 1, 1}, {s, []int64{2, 0}, 1, 1}, {s, []int64{2, 2}, 2, 2},
		{s, []int64{2, 1, 0}, 0, 0}, {s, []int64{9, 9, 9}, 0, 0},
		{wide, []int64{1}, 0, 3}, {wide, []int64{1, 1}, 0, 2}, {wide, []int64{1, 2}, 2, 3}, {wide, []int64{1, 1, 2}, 1, 1}, {wide, []int64{1, 1, 4}, 2, 2},
		{wide, []int64{2}, 3, 3}, {wide, []int64{2, most, most}, 3, 3}, {wide, []int64{3, 0}, 3, 5}, {wide, []int64{3, 0, most}, 4, 5}, {wide, []int64{3, 1}, 5, 5},
		{wide, []int64{most}, 5, 6}, {wide, []int64{most, most}, 6, 6}, {wide, []int64{least}, 0, 0}, {wide, []int64{most, 0, 0, 0}, 0, 0},
		{rel(2), nil, 0, 0}, {rel(2), []int64{1}, 0, 0}, {rel(2), []int64{1, 2}, 0, 0}, {rel(2), []int64{1, 2, 3}, 0, 0},
		{rel(0, []int64{}), nil, 0, 1}, {rel(0, []int64{}), []int64{0}, 0, 0}, {rel(0), nil, 0, 0},
	}
	for _, c := range cases {
		if a, b := c.s.Prefix(c.p); a != c.from || b != c.to {
			t.Errorf("Prefix(%v) of %v = %d %d, want %d %d", c.p, slices.Collect(c.s.All()), a, b, c.from, c.to)
		}
	}
}

// P5.2: Has needs the whole row.
func TestHas(t *testing.T) {
	s := rel(2, []int64{2, 1}, []int64{1, 5}, []int64{least, most})
	for _, row := range [][]int64{{2, 1}, {1, 5}, {least, most}} {
		if !s.Has(row) {
			t.Errorf("Has(%v) = false", row)
		}
	}
	for _, row := range [][]int64{nil, {}, {1}, {2}, {2, 1, 1}, {1, 5, 0}, {5, 1}, {1, 1}, {2, 5}, {most, least}, {0, 0}} {
		if s.Has(row) {
			t.Errorf("Has(%v) = true", row)
		}
	}
	if empty := rel(0, []int64{}); !empty.Has(nil) || !empty.Has([]int64{}) || empty.Has([]int64{0}) {
		t.Error("Has of the empty row")
	}
	if rel(0).Has(nil) || rel(1).Has(nil) || rel(1).Has([]int64{0}) {
		t.Error("Has without rows")
	}
}

// P5.2: Prefix and Has agree with going through all rows.
func TestPrefixOfManyRows(t *testing.T) {
	r := rand.New(rand.NewSource(2))
	for range 3000 {
		width := r.Intn(4)
		s := segment.Make(width, randomRows(r, width, 40))
		rows := slices.Collect(s.All())
		p := make([]int64, r.Intn(width+2))
		for k := range p {
			p[k] = int64(r.Intn(6) - 2)
		}
		from, to := 0, 0
		for i, row := range rows {
			if len(p) <= width && slices.Compare(row[:len(p)], p) < 0 {
				from = i + 1
			}
			if len(p) <= width && slices.Compare(row[:len(p)], p) <= 0 {
				to = i + 1
			}
		}
		if a, b := s.Prefix(p); a != from || b != to {
			t.Fatalf("Prefix(%v) of %v = %d %d, want %d %d", p, rows, a, b, from, to)
		}
		if got := s.Has(p); got != contains(rows, p) {
			t.Fatalf("Has(%v) of %v = %v", p, rows, got)
		}
	}
}

// P5.3: union, intersection, difference and equality of all pairs of subsets of
// a few rows.
func TestSetsOfAllSubsets(t *testing.T) {
	rows := [][]int64{{least, 0}, {0, 1}, {0, 2}, {1, 0}, {1, most}, {2, 2}}
	subset := func(bits int) [][]int64 {
		var list [][]int64
		for i, row := range rows {
			if bits>>i&1 == 1 {
				list = append(list, row)
			}
		}
		return list
	}
	for x := range 1 << len(rows) {
		for y := range 1 << len(rows) {
			a, b := rel(2, subset(x)...), rel(2, subset(y)...)
			checkRel(t, "Or", a.Or(b), 2, subset(x|y)...)
			checkRel(t, "And", a.And(b), 2, subset(x&y)...)
			checkRel(t, "Minus", a.Minus(b), 2, subset(x&^y)...)
			if a.Same(b) != (x == y) {
				t.Fatalf("Same of %v and %v = %v", subset(x), subset(y), a.Same(b))
			}
		}
	}
}

// P5.3: the same for relations of all sizes: few rows among many, many among
// few, and runs of rows of either one.
func TestSetsOfManyRows(t *testing.T) {
	r := rand.New(rand.NewSource(3))
	for range 400 {
		span := int64(1 + r.Intn(2000))
		draw := func() map[int64]bool {
			set := map[int64]bool{}
			start, count := r.Int63n(span), r.Intn(1+r.Intn(300))
			for i := range count {
				n := r.Int63n(span)
				if span%2 == 0 {
					n = (start + int64(i)) % span
				}
				set[n] = true
			}
			return set
		}
		a, b := draw(), draw()
		var or, and, minus [][]int64
		for n := range span {
			row := split(n)
			if a[n] || b[n] {
				or = append(or, row)
			}
			if a[n] && b[n] {
				and = append(and, row)
			}
			if a[n] && !b[n] {
				minus = append(minus, row)
			}
		}
		s, o := relOf(a), relOf(b)
		checkRel(t, "Or", s.Or(o), 2, or...)
		checkRel(t, "And", s.And(o), 2, and...)
		checkRel(t, "Minus", s.Minus(o), 2, minus...)
		if got := s.Same(o); got != (len(or) == len(and)) {
			t.Fatalf("Same = %v", got)
		}
		if !s.Same(relOf(a)) || !s.Minus(o).Or(s.And(o)).Same(s) {
			t.Fatal("a relation is not the same as itself")
		}
	}
}

// split makes a row of a number, so that greater numbers are later rows.
func split(n int64) []int64 {
	return []int64{n / 7, n % 7}
}

func relOf(set map[int64]bool) *segment.Seg {
	var rows [][]int64
	for n := range set {
		rows = append(rows, split(n))
	}
	return segment.Make(2, rows)
}

// P5.3: with the empty row, and with relations without rows of another width.
func TestSetsOfOtherWidths(t *testing.T) {
	none, empty := rel(0), rel(0, []int64{})
	checkRel(t, "empty or empty", empty.Or(empty), 0, []int64{})
	checkRel(t, "empty or none", empty.Or(none), 0, []int64{})
	checkRel(t, "none or empty", none.Or(empty), 0, []int64{})
	checkRel(t, "empty and empty", empty.And(empty), 0, []int64{})
	checkRel(t, "empty and none", empty.And(none), 0)
	checkRel(t, "empty minus empty", empty.Minus(empty), 0)
	checkRel(t, "empty minus none", empty.Minus(none), 0, []int64{})
	one, two := rel(1, []int64{1}), rel(2, []int64{1, 1}, []int64{1, 2})
	checkRel(t, "two or no rows of width 5", two.Or(rel(5)), 2, []int64{1, 1}, []int64{1, 2})
	checkRel(t, "no rows of width 5 or two", rel(5).Or(two), 2, []int64{1, 1}, []int64{1, 2})
	checkRel(t, "no rows or nil", rel(5).Or(nil), 5)
	checkRel(t, "one and two", one.And(two), 1)
	checkRel(t, "two and one", two.And(one), 2)
	checkRel(t, "two and empty", two.And(empty), 2)
	checkRel(t, "one minus two", one.Minus(two), 1, []int64{1})
	checkRel(t, "two minus one", two.Minus(one), 2, []int64{1, 1}, []int64{1, 2})
	checkRel(t, "empty minus one", empty.Minus(one), 0, []int64{})
	for _, s := range []*segment.Seg{one, two, empty} {
		for _, o := range []*segment.Seg{one, two, empty} {
			if got := s.Same(o); got != (s == o) {
				t.Errorf("Same of widths %d and %d = %v", s.Width(), o.Width(), got)
			}
			s.Or(o) // two widths are not promised a result, but must not panic
		}
	}
	if !rel(2).Same(rel(3)) || !rel(0).Same(rel(3)) || rel(0).Same(empty) || empty.Same(rel(0)) {
		t.Error("Same without rows")
	}
	if rel(2, []int64{1, 2}).Same(rel(2, []int64{1, 3})) || rel(2, []int64{1, 2}).Same(rel(2, []int64{2, 1})) {
		t.Error("Same of different rows")
	}
}

// P5.3: Project orders, repeats and skips positions, and sorts the rows anew.
func TestProject(t *testing.T) {
	s := rel(3, []int64{1, 9, 5}, []int64{2, 8, 5}, []int64{3, 9, 5})
	cases := []struct {
		keys  []int
		width int
		want  [][]int64
	}{
		{[]int{0, 1, 2}, 3, [][]int64{{1, 9, 5}, {2, 8, 5}, {3, 9, 5}}},
		{[]int{1, 0}, 2, [][]int64{{8, 2}, {9, 1}, {9, 3}}},
		{[]int{1}, 1, [][]int64{{8}, {9}}},
		{[]int{2}, 1, [][]int64{{5}}},
		{[]int{2, 2, 1, 2}, 4, [][]int64{{5, 5, 8, 5}, {5, 5, 9, 5}}},
		{[]int{-1, 1, 3, 0, math.MaxInt, math.MinInt}, 2, [][]int64{{8, 2}, {9, 1}, {9, 3}}},
		{[]int{3, -1}, 0, [][]int64{{}}},
		{nil, 0, [][]int64{{}}},
	}
	for _, c := range cases {
		keys := slices.Clone(c.keys)
		checkRel(t, "Project", s.Project(keys...), c.width, c.want...)
		if !slices.Equal(keys, c.keys) {
			t.Errorf("Project changed its keys from %v to %v", c.keys, keys)
		}
	}
	checkRel(t, "without rows", rel(2).Project(1, 0, 1, 2), 3)
	checkRel(t, "without rows to nothing", rel(2).Project(), 0)
	checkRel(t, "of the empty row", rel(0, []int64{}).Project(0), 0, []int64{})
}

// P5.3: Project agrees with picking the elements of each row.
func TestProjectOfManyRows(t *testing.T) {
	r := rand.New(rand.NewSource(4))
	for range 1000 {
		width := r.Intn(4)
		s := segment.Make(width, randomRows(r, width, 30))
		keys := make([]int, r.Intn(5))
		valid := 0
		for i := range keys {
			keys[i] = r.Intn(width+2) - 1
			if keys[i] >= 0 && keys[i] < width {
				valid++
			}
		}
		var rows [][]int64
		for row := range s.All() {
			var part []int64
			for _, k := range keys {
				if k >= 0 && k < width {
					part = append(part, row[k])
				}
			}
			rows = append(rows, part)
		}
		checkRel(t, "Project", s.Project(keys...), valid, modelOf(valid, rows)...)
	}
}
