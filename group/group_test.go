package group_test

import (
	"math"
	"math/big"
	"math/rand"
	"slices"
	"testing"

	"ergo/group"
	"ergo/index"
	"ergo/segment"
)

const least, most = math.MinInt64, math.MaxInt64

// others are numbers that are no aggregates.
var others = []group.Agg{group.None, -1, 5, 6, 99, math.MinInt, math.MaxInt}

// all are the aggregates.
var all = []group.Agg{group.Count, group.Sum, group.Min, group.Max}

// rel returns the relation of some rows of one width.
func rel(width int, rows ...[]int64) *segment.Seg {
	return segment.Make(width, rows)
}

// model returns what Make must return, by the words of P9.1.
func model(a group.Agg, list []int64) (int64, bool) {
	if len(list) == 0 || !slices.Contains(all, a) {
		return 0, false
	}
	sorted := slices.Sorted(slices.Values(list))
	total := new(big.Int)
	for _, v := range list {
		total.Add(total, big.NewInt(v))
	}
	switch {
	case a == group.Count:
		return int64(len(list)), true
	case a == group.Min:
		return sorted[0], true
	case a == group.Max:
		return sorted[len(sorted)-1], true
	case total.IsInt64():
		return total.Int64(), true
	}
	return 0, false
}

// checkBy checks that By has exactly these rows, of this width.
func checkBy(t *testing.T, s *segment.Seg, keys []int, a group.Agg, col, width int, rows ...[]int64) {
	t.Helper()
	got, ok := group.By(s, keys, a, col)
	if !ok || got.Width() != width || !slices.EqualFunc(slices.Collect(got.All()), rows, slices.Equal) {
		t.Errorf("By(%v, %v, %d, %d) = %v of width %d, %v, want %v of width %d", slices.Collect(s.All()), keys, a, col, slices.Collect(got.All()), got.Width(), ok, rows, width)
	}
}

// checkNoBy checks that By has no result.
func checkNoBy(t *testing.T, s *segment.Seg, keys []int, a group.Agg, col int) {
	t.Helper()
	if got, ok := group.By(s, keys, a, col); ok || got != nil {
		t.Errorf("By(%v, %v, %d, %d) = %v %v, want nil and false", slices.Collect(s.All()), keys, a, col, slices.Collect(got.All()), ok)
	}
}

// P9.1: the aggregates are numbered in order, and have their words.
func TestWord(t *testing.T) {
	if group.None != 0 {
		t.Errorf("None is %d", group.None)
	}
	for i, word := range []string{"count", "sum", "min", "max"} {
		a := all[i]
		if int(a) != i+1 || a.Word() != word || group.Of(word) != a {
			t.Errorf("%q: number %d, word %q, Of %d", word, a, a.Word(), group.Of(word))
		}
	}
	for _, a := range others {
		if got := a.Word(); got != "" {
			t.Errorf("Agg(%d).Word() = %q, want nothing", a, got)
		}
	}
}

// P9.1: any other text is None's, the empty one too.
func TestOfOtherTexts(t *testing.T) {
	for _, s := range []string{"", "none", "Count", "COUNT", "coun", "counts", " count", "count ", "su", "sums", "minimum", "mi", "maxx", "avg", "min\x00", "\xff"} {
		if got := group.Of(s); got != group.None {
			t.Errorf("Of(%q) = %d, want None", s, got)
		}
	}
}

// P9.1: the aggregates of lists written out.
func TestMake(t *testing.T) {
	cases := []struct {
		a    group.Agg
		list []int64
		want int64
		ok   bool
	}{
		{group.Count, []int64{5}, 1, true},
		{group.Count, []int64{7, 7, -7, 0}, 4, true},
		{group.Count, []int64{most, most}, 2, true},
		{group.Sum, []int64{5}, 5, true},
		{group.Sum, []int64{5, 7}, 12, true},
		{group.Sum, []int64{3, 3, 3}, 9, true},
		{group.Sum, []int64{4, -4}, 0, true},
		{group.Sum, []int64{most, least}, -1, true},
		{group.Sum, []int64{most, 1, -1}, most, true},
		{group.Sum, []int64{least, -1, 1}, least, true},
		{group.Sum, []int64{most, 1}, 0, false},
		{group.Sum, []int64{least, -1}, 0, false},
		{group.Min, []int64{5}, 5, true},
		{group.Min, []int64{5, 2, 9}, 2, true},
		{group.Min, []int64{2, 5, 9}, 2, true},
		{group.Min, []int64{9, 5, 2}, 2, true},
		{group.Min, []int64{1, 2, -3}, -3, true},
		{group.Min, []int64{0, most, least}, least, true},
		{group.Min, []int64{most, most}, most, true},
		{group.Max, []int64{5}, 5, true},
		{group.Max, []int64{5, 2, 9}, 9, true},
		{group.Max, []int64{9, 5, 2}, 9, true},
		{group.Max, []int64{2, 9, 5}, 9, true},
		{group.Max, []int64{-1, -2, -3}, -1, true},
		{group.Max, []int64{0, most, least}, most, true},
		{group.Max, []int64{least, least}, least, true},
	}
	for _, c := range cases {
		if got, ok := c.a.Make(c.list); got != c.want || ok != c.ok {
			t.Errorf("Agg(%d).Make(%v) = %d %v, want %d %v", c.a, c.list, got, ok, c.want, c.ok)
		}
	}
}

// P9.1: there is no aggregate of an empty list, and none of another number.
func TestMakeWithoutResult(t *testing.T) {
	for _, a := range append(slices.Clone(all), others...) {
		for _, list := range [][]int64{nil, {}} {
			if got, ok := a.Make(list); got != 0 || ok {
				t.Errorf("Agg(%d).Make(%v) = %d %v, want 0 false", a, list, got, ok)
			}
		}
	}
	for _, a := range others {
		if got, ok := a.Make([]int64{5, 7}); got != 0 || ok {
			t.Errorf("Agg(%d).Make(5, 7) = %d %v, want 0 false", a, got, ok)
		}
	}
}

// P9.1: the aggregates of random lists, which are left as they are.
func TestMakeOfManyLists(t *testing.T) {
	r := rand.New(rand.NewSource(1))
	few := []int64{least, least + 1, least / 2, -2, -1, 0, 1, 2, most / 2, most - 1, most}
	for range 5000 {
		list := make([]int64, r.Intn(10))
		for i := range list {
			list[i] = few[r.Intn(len(few))]
		}
		before := slices.Clone(list)
		for a := group.None - 1; a <= group.Max+1; a++ {
			want, wantOK := model(a, list)
			if got, ok := a.Make(list); got != want || ok != wantOK {
				t.Fatalf("Agg(%d).Make(%v) = %d %v, want %d %v", a, list, got, ok, want, wantOK)
			}
			if !slices.Equal(list, before) {
				t.Fatalf("Agg(%d).Make changed %v to %v", a, before, list)
			}
		}
	}
}

// P9.2: the example of the chapter, by each of the aggregates.
func TestBy(t *testing.T) {
	s := rel(2, []int64{1, 5}, []int64{1, 7}, []int64{2, 3})
	checkBy(t, s, []int{0}, group.Sum, 1, 2, []int64{1, 12}, []int64{2, 3})
	checkBy(t, s, []int{0}, group.Count, 1, 2, []int64{1, 2}, []int64{2, 1})
	checkBy(t, s, []int{0}, group.Min, 1, 2, []int64{1, 5}, []int64{2, 3})
	checkBy(t, s, []int{0}, group.Max, 1, 2, []int64{1, 7}, []int64{2, 3})
}

// P9.2: rows with the same element at the position all count, and rows with the
// same Key need not follow one another.
func TestByOfAllRows(t *testing.T) {
	s := rel(3, []int64{1, 8, 4}, []int64{2, 9, 4}, []int64{3, 8, 4}, []int64{4, 9, 5}, []int64{5, 8, 6})
	checkBy(t, s, []int{1}, group.Sum, 2, 2, []int64{8, 14}, []int64{9, 9})
	checkBy(t, s, []int{1}, group.Count, 2, 2, []int64{8, 3}, []int64{9, 2})
	checkBy(t, s, []int{1}, group.Max, 0, 2, []int64{8, 5}, []int64{9, 4})
	checkBy(t, s, []int{2}, group.Min, 1, 2, []int64{4, 8}, []int64{5, 9}, []int64{6, 8})
}

// P9.2: a Key has its elements in the order of the positions; one that occurs
// twice is there twice, and one out of range is not there at all.
func TestByPositions(t *testing.T) {
	s := rel(3, []int64{1, 2, 9}, []int64{2, 1, 8}, []int64{2, 1, 9}, []int64{2, 2, 2})
	checkBy(t, s, []int{1, 0}, group.Sum, 2, 3, []int64{1, 2, 17}, []int64{2, 1, 9}, []int64{2, 2, 2})
	checkBy(t, s, []int{0, 0}, group.Count, 0, 3, []int64{1, 1, 1}, []int64{2, 2, 3})
	checkBy(t, s, []int{3, 1, -1, math.MinInt, math.MaxInt}, group.Max, 2, 2, []int64{1, 9}, []int64{2, 9})
	checkBy(t, s, []int{0, 1, 2}, group.Min, 0, 4, []int64{1, 2, 9, 1}, []int64{2, 1, 8, 2}, []int64{2, 1, 9, 2}, []int64{2, 2, 2, 2})
	checkBy(t, s, []int{2}, group.Sum, 2, 2, []int64{2, 2}, []int64{8, 8}, []int64{9, 18})
}

// P9.2: without positions all rows have the same, empty Key.
func TestByEmptyKey(t *testing.T) {
	s := rel(1, []int64{4}, []int64{5}, []int64{-6})
	for _, keys := range [][]int{nil, {}, {1}, {-1, 7, math.MaxInt}} {
		checkBy(t, s, keys, group.Count, 0, 1, []int64{3})
		checkBy(t, s, keys, group.Sum, 0, 1, []int64{3})
		checkBy(t, s, keys, group.Min, 0, 1, []int64{-6})
		checkBy(t, s, keys, group.Max, 0, 1, []int64{5})
		checkBy(t, rel(0, []int64{}), keys, group.Count, 0, 1, []int64{1})
	}
}

// P9.2: the position must be one of the rows, even where there are none; Count
// takes any.
func TestByPositionOutOfRange(t *testing.T) {
	two := rel(2, []int64{1, 5}, []int64{1, 7})
	for _, col := range []int{-1, 2, 3, math.MinInt, math.MaxInt} {
		for _, a := range all[1:] {
			for _, keys := range [][]int{nil, {0}, {col}} {
				checkNoBy(t, two, keys, a, col)
				checkNoBy(t, rel(2), keys, a, col)
			}
		}
		checkBy(t, two, []int{0}, group.Count, col, 2, []int64{1, 2})
		checkBy(t, rel(2), []int{0}, group.Count, col, 2)
	}
	for _, none := range []*segment.Seg{nil, {}, rel(0), rel(0, []int64{})} {
		for _, a := range all[1:] {
			checkNoBy(t, none, nil, a, 0)
			checkNoBy(t, none, []int{0}, a, -1)
		}
	}
}

// P9.2: a number that is no aggregate has no result, whatever the rows are.
func TestByOtherAggregates(t *testing.T) {
	for _, s := range []*segment.Seg{nil, rel(2), rel(2, []int64{1, 5}), rel(0, []int64{})} {
		for _, a := range others {
			for _, col := range []int{-1, 0, 1, 2} {
				checkNoBy(t, s, nil, a, col)
				checkNoBy(t, s, []int{0}, a, col)
			}
		}
	}
}

// P9.2: one Key without a sum is enough to have no result; the bounds are those
// of the whole sum.
func TestByWithoutResult(t *testing.T) {
	s := rel(3, []int64{1, 0, 5}, []int64{2, 1, most}, []int64{2, 2, 1}, []int64{3, 0, 5})
	checkNoBy(t, s, []int{0}, group.Sum, 2)
	checkNoBy(t, s, nil, group.Sum, 2)
	checkNoBy(t, rel(1, []int64{least}, []int64{-1}), nil, group.Sum, 0)
	checkBy(t, s, []int{0}, group.Sum, 1, 2, []int64{1, 0}, []int64{2, 3}, []int64{3, 0})
	checkBy(t, s, []int{0}, group.Max, 2, 2, []int64{1, 5}, []int64{2, most}, []int64{3, 5})
	checkBy(t, s, []int{0, 1}, group.Sum, 2, 3, []int64{1, 0, 5}, []int64{2, 1, most}, []int64{2, 2, 1}, []int64{3, 0, 5})
	checkBy(t, rel(1, []int64{most}, []int64{1}, []int64{-1}), nil, group.Sum, 0, 1, []int64{most})
	checkBy(t, rel(1, []int64{least}, []int64{most}, []int64{-1}), nil, group.Min, 0, 1, []int64{least})
}

// P9.2: a relation without rows has a result without rows.
func TestByWithoutRows(t *testing.T) {
	for _, a := range all {
		for _, width := range []int{1, 2, 6, math.MaxInt} {
			checkBy(t, rel(width), nil, a, 0, 1)
			checkBy(t, rel(width), []int{0, width, -1, width - 1}, a, width-1, 3)
		}
	}
	for _, none := range []*segment.Seg{nil, {}, rel(0), rel(-1)} {
		checkBy(t, none, nil, group.Count, 0, 1)
		checkBy(t, none, []int{0, 3}, group.Count, 5, 1)
	}
}

// Rule 3: the positions and the relation stay as they are.
func TestByLeavesArguments(t *testing.T) {
	s := rel(2, []int64{1, 5}, []int64{1, 7}, []int64{2, 3})
	keys := []int{7, 0, -1}
	for range 2 {
		checkBy(t, s, keys, group.Sum, 1, 2, []int64{1, 12}, []int64{2, 3})
	}
	if !slices.Equal(keys, []int{7, 0, -1}) || !s.Same(rel(2, []int64{1, 5}, []int64{1, 7}, []int64{2, 3})) {
		t.Errorf("By changed its arguments to %v and %v", slices.Collect(s.All()), keys)
	}
}

// P9.2: By agrees with going through all rows for each of them.
func TestByOfRandomRows(t *testing.T) {
	r := rand.New(rand.NewSource(2))
	few := []int64{least, -1, 0, 1, 2, most}
	for range 3000 {
		width := r.Intn(4)
		rows := make([][]int64, r.Intn(30))
		for i := range rows {
			rows[i] = make([]int64, width)
			for k := range rows[i] {
				rows[i][k] = few[r.Intn(len(few))]
			}
		}
		keys := make([]int, r.Intn(4))
		for i := range keys {
			keys[i] = r.Intn(width+2) - 1
		}
		checkRandom(t, segment.Make(width, rows), keys, group.Agg(r.Intn(6)), r.Intn(width+2)-1)
	}
}

// checkRandom checks By, by the words of P9.2.
func checkRandom(t *testing.T, s *segment.Seg, keys []int, a group.Agg, col int) {
	t.Helper()
	if !slices.Contains(all, a) || a != group.Count && (col < 0 || col >= s.Width()) {
		checkNoBy(t, s, keys, a, col)
		return
	}
	var want [][]int64
	width := 1 + s.Project(keys...).Width()
	for row := range s.All() {
		key := index.Key(row, keys)
		var list []int64
		for other := range s.All() {
			if slices.Equal(index.Key(other, keys), key) {
				list = append(list, append(other, 0)[max(col, 0)])
			}
		}
		value, ok := model(a, list)
		if !ok {
			checkNoBy(t, s, keys, a, col)
			return
		}
		want = append(want, append(key, value))
	}
	checkBy(t, s, keys, a, col, width, slices.Collect(segment.Make(width, want).All())...)
}

// P9.2: very many rows, with one Key or with as many.
func TestByOfManyRows(t *testing.T) {
	const count = 100000
	var rows, ones [][]int64
	for i := range int64(count) {
		rows = append(rows, []int64{i, 3})
		ones = append(ones, []int64{i, 1})
	}
	s := segment.Make(2, rows)
	checkBy(t, s, []int{1}, group.Count, 0, 2, []int64{3, count})
	checkBy(t, s, []int{1}, group.Sum, 0, 2, []int64{3, count * (count - 1) / 2})
	checkBy(t, s, nil, group.Max, 0, 1, []int64{count - 1})
	checkBy(t, s, []int{0}, group.Count, 0, 2, ones...)
}
