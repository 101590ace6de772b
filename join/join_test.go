package join_test

import (
	"math"
	"math/rand"
	"slices"
	"testing"

	"ergo/index"
	"ergo/join"
	"ergo/segment"
)

const least, most = math.MinInt64, math.MaxInt64

// rel returns the relation of some rows of one width.
func rel(width int, rows ...[]int64) *segment.Seg {
	return segment.Make(width, rows)
}

// nested returns the pairs that a join must have, by going through all of them.
func nested(a, b *segment.Seg, ka, kb []int) []join.Pair {
	var pairs []join.Pair
	for i := range a.Len() {
		for j := range b.Len() {
			if slices.Equal(index.Key(a.Row(i), ka), index.Key(b.Row(j), kb)) {
				pairs = append(pairs, join.Pair{A: i, B: j})
			}
		}
	}
	return pairs
}

// check checks all joins of two relations: the pairs of each method, and the
// rows of a with and without partners.
func check(t *testing.T, a, b *segment.Seg, ka, kb []int, want ...join.Pair) {
	t.Helper()
	for name, got := range map[string][]join.Pair{
		"Hash":       join.Hash(a, b, ka, kb),
		"Merge":      join.Merge(a, b, ka, kb),
		"ByHash.Do":  join.ByHash.Do(a, b, ka, kb),
		"ByMerge.Do": join.ByMerge.Do(a, b, ka, kb),
	} {
		if !slices.Equal(got, want) {
			t.Fatalf("%s of %v and %v by %v and %v = %v, want %v", name, slices.Collect(a.All()), slices.Collect(b.All()), ka, kb, got, want)
		}
	}
	var with, without []int
	for i := range a.Len() {
		if slices.ContainsFunc(want, func(p join.Pair) bool { return p.A == i }) {
			with = append(with, i)
		} else {
			without = append(without, i)
		}
	}
	if got := join.Semi(a, b, ka, kb, true); !slices.Equal(got, with) {
		t.Fatalf("Semi of %v and %v by %v and %v = %v, want %v", slices.Collect(a.All()), slices.Collect(b.All()), ka, kb, got, with)
	}
	if got := join.Semi(a, b, ka, kb, false); !slices.Equal(got, without) {
		t.Fatalf("Semi without partners of %v and %v by %v and %v = %v, want %v", slices.Collect(a.All()), slices.Collect(b.All()), ka, kb, got, without)
	}
}

// P8.1, P8.2: the example of the chapter, and rows without partners.
func TestJoin(t *testing.T) {
	a := rel(2, []int64{1, 7}, []int64{2, 8})
	b := rel(2, []int64{7, 1}, []int64{7, 2})
	check(t, a, b, []int{1}, []int{0}, join.Pair{A: 0, B: 0}, join.Pair{A: 0, B: 1})
	check(t, b, a, []int{0}, []int{1}, join.Pair{A: 0, B: 0}, join.Pair{A: 1, B: 0})
	check(t, a, b, []int{0}, []int{1}, join.Pair{A: 0, B: 0}, join.Pair{A: 1, B: 1})
	check(t, a, b, []int{0}, []int{0})
	check(t, a, a, []int{0, 1}, []int{0, 1}, join.Pair{A: 0, B: 0}, join.Pair{A: 1, B: 1})
	check(t, a, b, []int{0, 1}, []int{1, 0}, join.Pair{A: 0, B: 0})
	check(t, rel(1, []int64{least}, []int64{-1}, []int64{most}), rel(1, []int64{least}, []int64{0}, []int64{most}), []int{0}, []int{0}, join.Pair{A: 0, B: 0}, join.Pair{A: 2, B: 2})
}

// P8.1: the pairs are sorted by the rows, even where the Keys are in another order.
func TestOrderOfPairs(t *testing.T) {
	a := rel(2, []int64{1, 9}, []int64{2, 5}, []int64{3, 9}, []int64{4, 1})
	b := rel(2, []int64{1, 5}, []int64{2, 9}, []int64{3, 1}, []int64{4, 9})
	check(t, a, b, []int{1}, []int{1},
		join.Pair{A: 0, B: 1}, join.Pair{A: 0, B: 3}, join.Pair{A: 1, B: 0},
		join.Pair{A: 2, B: 1}, join.Pair{A: 2, B: 3}, join.Pair{A: 3, B: 2})
}

// P8.1, P8.2: with empty Keys every row is a partner of every other.
func TestEmptyKeys(t *testing.T) {
	a, b := rel(1, []int64{1}, []int64{2}), rel(2, []int64{3, 3}, []int64{4, 4})
	all := []join.Pair{{A: 0, B: 0}, {A: 0, B: 1}, {A: 1, B: 0}, {A: 1, B: 1}}
	for _, none := range [][]int{nil, {}, {-1}, {2, 9, math.MaxInt, math.MinInt}} {
		check(t, a, b, none, nil, all...)
		check(t, a, b, nil, none, all...)
		check(t, a, b, none, []int{0})
		check(t, a, b, []int{0}, none)
		check(t, rel(0, []int64{}), b, []int{0}, none, join.Pair{A: 0, B: 0}, join.Pair{A: 0, B: 1})
		check(t, a, rel(0, []int64{}), none, []int{0}, join.Pair{A: 0, B: 0}, join.Pair{A: 1, B: 0})
	}
}

// P8.1, P8.2: positions out of range are skipped, in each relation by its own
// width; Keys of different lengths are not equal, even if one starts with the other.
func TestPositionsOutOfRange(t *testing.T) {
	a := rel(2, []int64{1, 7}, []int64{2, 8})
	b := rel(3, []int64{1, 7, 7}, []int64{2, 7, 8})
	check(t, a, b, []int{9, 1, -1}, []int{2}, join.Pair{A: 0, B: 0}, join.Pair{A: 1, B: 1})
	check(t, a, b, []int{0}, []int{3, 0, -7}, join.Pair{A: 0, B: 0}, join.Pair{A: 1, B: 1})
	check(t, a, b, []int{0, 2}, []int{0, 2})
	check(t, a, b, []int{0, 1}, []int{0, 1, 2})
	check(t, b, a, []int{0, 1, 2}, []int{0, 1, 2})
	check(t, a, b, []int{0}, []int{0, 1})
	check(t, a, b, []int{0, 1}, []int{0})
}

// P8.1: a position may occur more than once, on one side or on both.
func TestRepeatedPositions(t *testing.T) {
	a := rel(1, []int64{7}, []int64{8})
	b := rel(2, []int64{7, 7}, []int64{7, 8}, []int64{8, 8})
	check(t, a, b, []int{0, 0}, []int{0, 1}, join.Pair{A: 0, B: 0}, join.Pair{A: 1, B: 2})
	check(t, b, a, []int{0, 1}, []int{0, 0}, join.Pair{A: 0, B: 0}, join.Pair{A: 2, B: 1})
	check(t, a, b, []int{0, 0}, []int{1, 1}, join.Pair{A: 0, B: 0}, join.Pair{A: 1, B: 1}, join.Pair{A: 1, B: 2})
	check(t, a, b, []int{0, 0}, []int{1})
}

// P8.1, P8.2: relations without rows have no pairs, and no row of them a partner.
func TestWithoutRows(t *testing.T) {
	s := rel(1, []int64{1}, []int64{2})
	for _, none := range []*segment.Seg{nil, {}, rel(0), rel(1), rel(math.MaxInt)} {
		for _, keys := range [][]int{nil, {0}, {0, 0}, {-1, 5}} {
			check(t, s, none, keys, keys)
			check(t, none, s, keys, keys)
			check(t, none, nil, keys, keys)
			check(t, nil, none, keys, nil)
		}
	}
}

// P8.1: every Method but ByMerge joins by Hash, those without a name too.
func TestMethods(t *testing.T) {
	if join.ByHash != 0 || join.ByMerge != 1 {
		t.Errorf("ByHash is %d and ByMerge %d", join.ByHash, join.ByMerge)
	}
	a := rel(2, []int64{1, 7}, []int64{2, 8}, []int64{3, 7})
	b := rel(2, []int64{7, 1}, []int64{7, 2})
	want := []join.Pair{{A: 0, B: 0}, {A: 0, B: 1}, {A: 2, B: 0}, {A: 2, B: 1}}
	for _, m := range []join.Method{join.ByHash, join.ByMerge, -1, 2, math.MaxInt, math.MinInt} {
		if got := m.Do(a, b, []int{1}, []int{0}); !slices.Equal(got, want) {
			t.Errorf("Method(%d).Do = %v, want %v", m, got, want)
		}
	}
}

// Rule 3: the positions are not changed.
func TestArgumentsStay(t *testing.T) {
	a, b := rel(2, []int64{1, 7}, []int64{2, 8}), rel(2, []int64{7, 1}, []int64{8, 2})
	ka, kb := []int{9, 1, 0}, []int{0, -1, 1}
	check(t, a, b, ka, kb, join.Pair{A: 0, B: 0}, join.Pair{A: 1, B: 1})
	if !slices.Equal(ka, []int{9, 1, 0}) || !slices.Equal(kb, []int{0, -1, 1}) {
		t.Errorf("the positions became %v and %v", ka, kb)
	}
}

// P8.1, P8.2: all joins of random relations agree with going through all pairs.
func TestRandomJoins(t *testing.T) {
	r := rand.New(rand.NewSource(1))
	draw := func() (*segment.Seg, []int) {
		width, span := r.Intn(4), 1+r.Intn(5)
		rows := make([][]int64, r.Intn(25))
		for i := range rows {
			rows[i] = make([]int64, width)
			for k := range rows[i] {
				rows[i][k] = int64(r.Intn(span) - 1)
			}
		}
		keys := make([]int, r.Intn(3))
		for i := range keys {
			keys[i] = r.Intn(width+2) - 1
		}
		return segment.Make(width, rows), keys
	}
	for range 5000 {
		a, ka := draw()
		b, kb := draw()
		check(t, a, b, ka, kb, nested(a, b, ka, kb)...)
	}
}

// P8.1, P8.2: very many rows with one partner each, in the opposite order.
func TestManyRows(t *testing.T) {
	const count = 50000
	var up, down [][]int64
	for i := range int64(count) {
		up = append(up, []int64{i, i})
		down = append(down, []int64{i, count - 1 - i})
	}
	a, b := segment.Make(2, up), segment.Make(2, down)
	var want []join.Pair
	var rows []int
	for i := range count {
		want = append(want, join.Pair{A: i, B: count - 1 - i})
		rows = append(rows, i)
	}
	if !slices.Equal(join.Hash(a, b, []int{1}, []int{1}), want) || !slices.Equal(join.Merge(a, b, []int{1}, []int{1}), want) {
		t.Error("not each row is with its partner")
	}
	if !slices.Equal(join.Semi(a, b, []int{1}, []int{1}, true), rows) || len(join.Semi(a, b, []int{1}, []int{1}, false)) != 0 {
		t.Error("not each row has a partner")
	}
}

// P8.2: rows with very many partners each are still listed once, without going
// through all pairs.
func TestSemiOfManyPartners(t *testing.T) {
	const count = 50000
	var rows [][]int64
	var all []int
	for i := range int64(count) {
		rows = append(rows, []int64{i, 3})
		all = append(all, int(i))
	}
	s := segment.Make(2, rows)
	for _, keys := range [][]int{nil, {1}} {
		if got := join.Semi(s, s, keys, keys, true); !slices.Equal(got, all) {
			t.Errorf("by %v: %d rows, want %d", keys, len(got), count)
		}
		if got := join.Semi(s, s, keys, keys, false); len(got) != 0 {
			t.Errorf("by %v: %d rows without a partner", keys, len(got))
		}
	}
	if got := join.Semi(s, s, []int{0}, []int{1}, true); !slices.Equal(got, []int{3}) {
		t.Errorf("rows with a partner: %v", got)
	}
}
