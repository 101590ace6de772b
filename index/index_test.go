package index_test

import (
	"math"
	"math/rand"
	"slices"
	"testing"

	"ergo/index"
	"ergo/segment"
)

const least, most = math.MinInt64, math.MaxInt64

// rel returns the relation of some rows of one width.
func rel(width int, rows ...[]int64) *segment.Seg {
	return segment.Make(width, rows)
}

// pick returns what Key must return, by the words of P7.1.
func pick(row []int64, keys []int) []int64 {
	var key []int64
	for _, k := range keys {
		for i, v := range row {
			if i == k {
				key = append(key, v)
			}
		}
	}
	return key
}

// scan returns what Probe must return, by going through all rows.
func scan(s *segment.Seg, keys []int, key []int64) []int {
	var list []int
	for i := range s.Len() {
		if slices.Equal(pick(s.Row(i), keys), key) {
			list = append(list, i)
		}
	}
	return list
}

// distinct returns how many different Keys the rows have.
func distinct(s *segment.Seg, keys []int) int {
	var list [][]int64
	for row := range s.All() {
		list = append(list, pick(row, keys))
	}
	slices.SortFunc(list, slices.Compare)
	return len(slices.CompactFunc(list, slices.Equal))
}

// checkProbe checks the rows that an index has for a key.
func checkProbe(t *testing.T, x *index.Index, key []int64, want ...int) {
	t.Helper()
	if got := x.Probe(key); !slices.Equal(got, want) {
		t.Errorf("Probe(%v) = %v, want %v", key, got, want)
	}
}

// P7.1: Key orders, repeats and skips positions.
func TestKey(t *testing.T) {
	row := []int64{5, least, 7, most}
	cases := []struct {
		row  []int64
		keys []int
		want []int64
	}{
		{row, []int{0}, []int64{5}},
		{row, []int{0, 1, 2, 3}, row},
		{row, []int{3, 0, 1}, []int64{most, 5, least}},
		{row, []int{2, 2, 0, 2}, []int64{7, 7, 5, 7}},
		{row, []int{2, 2, 2, 2, 2, 1}, []int64{7, 7, 7, 7, 7, least}},
		{row, []int{4, 2, -1, 0, math.MaxInt, 3, math.MinInt}, []int64{7, 5, most}},
		{row, []int{4, -1}, nil},
		{row, nil, nil},
		{row, []int{}, nil},
		{nil, []int{0, 1}, nil},
		{[]int64{}, []int{0, -1}, nil},
		{nil, nil, nil},
	}
	for _, c := range cases {
		oldRow, oldKeys := slices.Clone(c.row), slices.Clone(c.keys)
		got := index.Key(c.row, c.keys)
		if !slices.Equal(got, c.want) {
			t.Errorf("Key(%v, %v) = %v, want %v", c.row, c.keys, got, c.want)
		}
		for i := range got {
			got[i]++
		}
		if !slices.Equal(c.row, oldRow) || !slices.Equal(c.keys, oldKeys) {
			t.Errorf("Key(%v, %v) gives out or changes its arguments", oldRow, oldKeys)
		}
	}
}

// P7.1: the example of the chapter, and the keys that no row has.
func TestProbe(t *testing.T) {
	x := index.Build(rel(2, []int64{1, 5}, []int64{2, 5}, []int64{3, 6}), []int{1})
	if x.Len() != 2 {
		t.Errorf("Len() = %d, want 2", x.Len())
	}
	checkProbe(t, x, []int64{5}, 0, 1)
	checkProbe(t, x, []int64{6}, 2)
	for _, key := range [][]int64{{1}, {2}, {3}, {0}, {-5}, {least}, {most}, {5 + 1<<32}, nil, {}, {5, 5}, {1, 5}, {5, 1}, {5, 0}, {0, 5}} {
		checkProbe(t, x, key)
	}
}

// P7.1: the elements of a key are in the order of the positions; one that
// occurs twice is there twice, and one out of range is not there at all.
func TestProbeByPositions(t *testing.T) {
	s := rel(3, []int64{1, 2, 9}, []int64{2, 1, 8}, []int64{2, 1, 9}, []int64{2, 2, 2})
	x := index.Build(s, []int{1, 0})
	checkProbe(t, x, []int64{2, 1}, 0)
	checkProbe(t, x, []int64{1, 2}, 1, 2)
	checkProbe(t, x, []int64{2, 2}, 3)
	checkProbe(t, x, []int64{1, 1})
	checkProbe(t, x, []int64{2})
	twice := index.Build(s, []int{0, 0})
	checkProbe(t, twice, []int64{2, 2}, 1, 2, 3)
	checkProbe(t, twice, []int64{2, 1})
	checkProbe(t, twice, []int64{1, 2})
	checkProbe(t, twice, []int64{2})
	skipped := index.Build(s, []int{3, -1, 2, math.MaxInt, math.MinInt})
	checkProbe(t, skipped, []int64{9}, 0, 2)
	checkProbe(t, skipped, []int64{8}, 1)
	checkProbe(t, skipped, []int64{0, 0, 9, 0, 0})
	for i, x := range []*index.Index{x, twice, skipped} {
		if want := []int{3, 2, 3}[i]; x.Len() != want {
			t.Errorf("index %d: Len() = %d, want %d", i, x.Len(), want)
		}
	}
}

// P7.1: without positions all rows have the same, empty Key.
func TestProbeOfEmptyKey(t *testing.T) {
	s := rel(1, []int64{4}, []int64{5}, []int64{6})
	for _, keys := range [][]int{nil, {}, {1}, {-1, 7}} {
		x := index.Build(s, keys)
		checkProbe(t, x, nil, 0, 1, 2)
		checkProbe(t, x, []int64{}, 0, 1, 2)
		checkProbe(t, x, []int64{4})
		if x.Len() != 1 {
			t.Errorf("by %v: Len() = %d, want 1", keys, x.Len())
		}
		empty := index.Build(rel(0, []int64{}), keys)
		checkProbe(t, empty, nil, 0)
		checkProbe(t, empty, []int64{0})
		if empty.Len() != 1 {
			t.Errorf("the empty row by %v: Len() = %d, want 1", keys, empty.Len())
		}
	}
}

// P7.1: nothing is found where there are no rows, nor in an Index that Build did not make.
func TestProbeWithoutRows(t *testing.T) {
	list := []*index.Index{{}}
	for _, s := range []*segment.Seg{nil, {}, rel(0), rel(2), rel(math.MaxInt)} {
		for _, keys := range [][]int{nil, {}, {0}, {1, 0}, {-1, 5}} {
			list = append(list, index.Build(s, keys))
		}
	}
	for _, x := range list {
		for _, key := range [][]int64{nil, {}, {0}, {0, 0}, {1, 2, 3}} {
			checkProbe(t, x, key)
		}
		if x.Len() != 0 {
			t.Errorf("Len() = %d, want 0", x.Len())
		}
	}
}

// Rule 3: an index stays as it is, whatever is done to arguments and results.
func TestIndexIsSeparate(t *testing.T) {
	keys := []int{1}
	x := index.Build(rel(2, []int64{1, 5}, []int64{2, 5}, []int64{3, 6}), keys)
	if keys[0] != 1 {
		t.Errorf("Build changed its keys to %v", keys)
	}
	keys[0] = 0
	key := []int64{5}
	first := x.Probe(key)
	if key[0] != 5 {
		t.Errorf("Probe changed its key to %v", key)
	}
	first[0], key[0] = 99, 98
	_ = append(first[:1], 97, 96)
	checkProbe(t, x, []int64{5}, 0, 1)
	checkProbe(t, x, []int64{6}, 2)
	again := x.Probe([]int64{5})
	x.Probe([]int64{6})
	if !slices.Equal(again, []int{0, 1}) {
		t.Errorf("a later Probe changed an earlier result to %v", again)
	}
}

// P7.1: Build, Probe and Len agree with going through all rows.
func TestProbeOfRandomRows(t *testing.T) {
	r := rand.New(rand.NewSource(1))
	for range 2000 {
		width := r.Intn(4)
		rows := make([][]int64, r.Intn(40))
		for i := range rows {
			rows[i] = make([]int64, width)
			for k := range rows[i] {
				rows[i][k] = int64(r.Intn(4) - 1)
			}
		}
		s := segment.Make(width, rows)
		keys := make([]int, r.Intn(4))
		for i := range keys {
			keys[i] = r.Intn(width+2) - 1
		}
		x := index.Build(s, keys)
		for row := range s.All() {
			key := index.Key(row, keys)
			checkProbe(t, x, key, scan(s, keys, key)...)
		}
		key := make([]int64, r.Intn(4))
		for i := range key {
			key[i] = int64(r.Intn(6) - 2)
		}
		checkProbe(t, x, key, scan(s, keys, key)...)
		if got, want := x.Len(), distinct(s, keys); got != want {
			t.Fatalf("Len() of %v by %v = %d, want %d", slices.Collect(s.All()), keys, got, want)
		}
	}
}

// P7.1: every row is found, for every number of rows around the sizes of a table.
func TestEveryRowIsFound(t *testing.T) {
	for count := range 300 {
		var rows [][]int64
		for i := range count {
			rows = append(rows, []int64{int64(i), int64(-i)})
		}
		x := index.Build(segment.Make(2, rows), []int{1})
		if x.Len() != count {
			t.Fatalf("Len() = %d, want %d", x.Len(), count)
		}
		for i := range count {
			checkProbe(t, x, []int64{int64(-i)}, i)
		}
		checkProbe(t, x, []int64{1})
		checkProbe(t, x, []int64{int64(-count)})
	}
}

// P7.1: every row of very many is found; numbers that agree in all low bits, or
// in all high ones, do not make it slow.
func TestManyKeys(t *testing.T) {
	const count = 100000
	spreads := map[string]func(i int64) int64{
		"one after another": func(i int64) int64 { return i - count/2 },
		"high bits":         func(i int64) int64 { return i << 44 },
		"middle bits":       func(i int64) int64 { return i << 20 },
		"from the least":    func(i int64) int64 { return least + i*3 },
		"powers mixed":      func(i int64) int64 { return i<<32 | i },
	}
	for name, spread := range spreads {
		var rows [][]int64
		for i := range int64(count) {
			rows = append(rows, []int64{i, spread(i)})
		}
		s := segment.Make(2, rows)
		for _, keys := range [][]int{{1}, {1, 1}, {0, 1}, {1, 0}} {
			x := index.Build(s, keys)
			if x.Len() != count {
				t.Fatalf("%s: Len() = %d, want %d", name, x.Len(), count)
			}
			for i := range count {
				if got := x.Probe(index.Key(s.Row(i), keys)); len(got) != 1 || got[0] != i {
					t.Fatalf("%s: row %d is found at %v", name, i, got)
				}
			}
		}
	}
}

// P7.1: very many rows with few Keys are found in ascending order.
func TestManyRowsOfFewKeys(t *testing.T) {
	const count, kinds = 200000, 3
	var rows [][]int64
	want := make([][]int, kinds)
	for i := range count {
		rows = append(rows, []int64{int64(i), int64(i % kinds)})
		want[i%kinds] = append(want[i%kinds], i)
	}
	x := index.Build(segment.Make(2, rows), []int{1})
	for kind, list := range want {
		if got := x.Probe([]int64{int64(kind)}); !slices.Equal(got, list) {
			t.Errorf("Probe(%d) has %d rows, want %d", kind, len(got), len(list))
		}
	}
	if x.Len() != kinds {
		t.Errorf("Len() = %d, want %d", x.Len(), kinds)
	}
}
