package best_test

import (
	"math"
	"math/rand"
	"slices"
	"testing"

	"ergo/best"
	"ergo/segment"
)

const least, most = math.MinInt64, math.MaxInt64

// rel returns the relation of some rows of one width.
func rel(width int, rows ...[]int64) *segment.Seg {
	return segment.Make(width, rows)
}

// checkRows checks that a relation has exactly these rows, of this width.
func checkRows(t *testing.T, name string, s *segment.Seg, width int, rows ...[]int64) {
	t.Helper()
	if got := slices.Collect(s.All()); s.Width() != width || !slices.EqualFunc(got, rows, slices.Equal) {
		t.Fatalf("%s: %v of width %d, want %v of width %d", name, got, s.Width(), rows, width)
	}
}

// checkPut checks what Put returns.
func checkPut(t *testing.T, b *best.Best, key []int64, cost int64, want bool) {
	t.Helper()
	if got := b.Put(key, cost); got != want {
		t.Fatalf("Put(%v, %d) = %v, want %v", key, cost, got, want)
	}
}

// checkGet checks that a key has this cost.
func checkGet(t *testing.T, b *best.Best, key []int64, want int64) {
	t.Helper()
	if got, ok := b.Get(key); got != want || !ok {
		t.Fatalf("Get(%v) = %d %v, want %d true", key, got, ok, want)
	}
}

// checkNone checks that a key has no cost.
func checkNone(t *testing.T, b *best.Best, key []int64) {
	t.Helper()
	if got, ok := b.Get(key); got != 0 || ok {
		t.Fatalf("Get(%v) = %d %v, want 0 false", key, got, ok)
	}
}

// checkLen checks how many keys have costs.
func checkLen(t *testing.T, b *best.Best, want int) {
	t.Helper()
	if got := b.Len(); got != want {
		t.Fatalf("Len() = %d, want %d", got, want)
	}
}

// P10.1: Better is less, or greater.
func TestBetter(t *testing.T) {
	small, great := best.New(1, false), best.New(1, true)
	numbers := []int64{least, least + 1, -1, 0, 1, most - 1, most}
	for i, x := range numbers {
		for j, y := range numbers {
			if got := small.Better(x, y); got != (i < j) {
				t.Errorf("Better(%d, %d) = %v for the least", x, y, got)
			}
			if got := great.Better(x, y); got != (i > j) {
				t.Errorf("Better(%d, %d) = %v for the greatest", x, y, got)
			}
		}
	}
}

// P10.1: in a new Best no key has a cost.
func TestNew(t *testing.T) {
	for _, width := range []int{0, 1, 3, 1 << 40, -1, math.MinInt} {
		for _, great := range []bool{false, true} {
			b := best.New(width, great)
			checkLen(t, b, 0)
			for _, key := range [][]int64{nil, {}, {0}, {0, 0, 0}} {
				checkNone(t, b, key)
			}
			checkRows(t, "Seg", b.Seg(), max(width+1, 0))
		}
	}
}

// P10.1: the example of the chapter; an equal cost is not better.
func TestPut(t *testing.T) {
	key := []int64{4}
	small := best.New(1, false)
	checkPut(t, small, key, 7, true)
	checkPut(t, small, key, 5, true)
	checkPut(t, small, key, 6, false)
	checkGet(t, small, key, 5)
	checkPut(t, small, key, 5, false)
	checkPut(t, small, key, least, true)
	checkPut(t, small, key, least, false)
	checkPut(t, small, key, most, false)
	checkGet(t, small, key, least)
	great := best.New(1, true)
	checkPut(t, great, key, -7, true)
	checkPut(t, great, key, 5, true)
	checkPut(t, great, key, 4, false)
	checkPut(t, great, key, 5, false)
	checkGet(t, great, key, 5)
	checkPut(t, great, key, most, true)
	checkPut(t, great, key, least, false)
	checkGet(t, great, key, most)
	checkLen(t, small, 1)
	checkLen(t, great, 1)
}

// P10.1: the first cost of a key is put, even the worst of all, or 0.
func TestFirstCost(t *testing.T) {
	for i, b := range []*best.Best{best.New(1, false), best.New(1, true)} {
		worst := []int64{most, least}[i]
		checkPut(t, b, []int64{1}, worst, true)
		checkPut(t, b, []int64{1}, worst, false)
		checkPut(t, b, []int64{2}, 0, true)
		checkPut(t, b, []int64{2}, 0, false)
		checkGet(t, b, []int64{1}, worst)
		checkGet(t, b, []int64{2}, 0)
		checkNone(t, b, []int64{0})
		checkLen(t, b, 2)
	}
}

// P10.1: each different key has its own cost, however alike two of them are.
func TestKeysAreToldApart(t *testing.T) {
	var numbers []int64
	for shift := range 64 {
		numbers = append(numbers, 1<<shift, -1<<shift, 1<<shift-1)
	}
	numbers = append(numbers, 0, 10, 39, 44, 92, 127, 128, 255, 256, 0xd800, 0xfffd, 0x10ffff)
	slices.Sort(numbers)
	numbers = slices.Compact(numbers)
	b := best.New(2, false)
	for i, x := range numbers {
		for j, y := range numbers {
			checkPut(t, b, []int64{x, y}, int64(i*1000+j), true)
		}
	}
	checkLen(t, b, len(numbers)*len(numbers))
	for i, x := range numbers {
		for j, y := range numbers {
			checkGet(t, b, []int64{x, y}, int64(i*1000+j))
		}
	}
}

// P10.1: a key of another width changes nothing and has no cost.
func TestOtherWidths(t *testing.T) {
	b := best.New(2, false)
	checkPut(t, b, []int64{1, 2}, 5, true)
	for _, key := range [][]int64{nil, {}, {1}, {2}, {1, 2, 0}, {0, 1, 2}, {1, 2, 5}, {1, 2, 1, 2}} {
		checkPut(t, b, key, 1, false)
		checkNone(t, b, key)
	}
	checkLen(t, b, 1)
	checkGet(t, b, []int64{1, 2}, 5)
	checkRows(t, "Seg", b.Seg(), 3, []int64{1, 2, 5})
	for _, width := range []int{-1, -2, math.MinInt, math.MaxInt, 1 << 40} {
		none := best.New(width, true)
		for _, key := range [][]int64{nil, {}, {1}, {1, 2}} {
			checkPut(t, none, key, 1, false)
			checkNone(t, none, key)
		}
		for _, s := range []*segment.Seg{nil, rel(0, []int64{}), rel(1, []int64{4}), rel(2, []int64{4, 4})} {
			if got := none.Add(s); got.Len() != 0 {
				t.Errorf("width %d: Add has %v", width, slices.Collect(got.All()))
			}
		}
		checkLen(t, none, 0)
		if none.Seg().Len() != 0 {
			t.Errorf("width %d: Seg has %v", width, slices.Collect(none.Seg().All()))
		}
	}
}

// P10.1, P10.2: with width 0 there is one key, the empty one. The zero value of
// Best, which New did not make, is one of these.
func TestWidthZero(t *testing.T) {
	for _, b := range []*best.Best{best.New(0, false), {}} {
		checkNone(t, b, nil)
		checkLen(t, b, 0)
		checkRows(t, "Seg", b.Seg(), 1)
		checkPut(t, b, nil, 7, true)
		checkPut(t, b, []int64{}, 7, false)
		checkPut(t, b, []int64{0}, 1, false)
		checkGet(t, b, []int64{}, 7)
		checkRows(t, "Add", b.Add(rel(1, []int64{9}, []int64{6}, []int64{3})), 1, []int64{3})
		checkRows(t, "Add of an empty row", b.Add(rel(0, []int64{})), 1)
		checkGet(t, b, nil, 3)
		checkLen(t, b, 1)
		checkRows(t, "Seg", b.Seg(), 1, []int64{3})
	}
}

// P10.2: Seg has each key once, with its best cost, in order.
func TestSeg(t *testing.T) {
	b := best.New(2, true)
	checkRows(t, "no costs", b.Seg(), 3)
	for _, row := range [][]int64{{2, 1, 4}, {1, 9, 0}, {2, 1, 6}, {-1, 5, most}, {1, 8, least}, {2, 1, 5}} {
		b.Put(row[:2], row[2])
	}
	first := b.Seg()
	want := [][]int64{{-1, 5, most}, {1, 8, least}, {1, 9, 0}, {2, 1, 6}}
	checkRows(t, "Seg", first, 3, want...)
	// A relation stays as it is, whatever is put later.
	b.Put([]int64{2, 1}, 100)
	b.Put([]int64{0, 0}, 1)
	checkRows(t, "the first Seg", first, 3, want...)
	checkRows(t, "Seg after more", b.Seg(), 3, []int64{-1, 5, most}, []int64{0, 0, 1}, []int64{1, 8, least}, []int64{1, 9, 0}, []int64{2, 1, 100})
}

// P10.2: Add returns only rows whose keys are new or have a better cost, each
// key once, with the cost that it has in the end.
func TestAdd(t *testing.T) {
	rows := rel(2, []int64{1, 5}, []int64{1, 7}, []int64{1, 9}, []int64{2, 3}, []int64{3, 6}, []int64{4, 4}, []int64{4, 5})
	for _, c := range []struct {
		great    bool
		add, seg [][]int64
	}{
		{false, [][]int64{{1, 5}, {2, 3}}, [][]int64{{0, 0}, {1, 5}, {2, 3}, {3, 6}, {4, 4}}},
		{true, [][]int64{{1, 9}, {2, 3}, {4, 5}}, [][]int64{{0, 0}, {1, 9}, {2, 3}, {3, 6}, {4, 5}}},
	} {
		b := best.New(1, c.great)
		for _, row := range [][]int64{{0, 0}, {1, 6}, {3, 6}, {4, 4}} {
			b.Put(row[:1], row[1])
		}
		checkRows(t, "Add", b.Add(rows), 2, c.add...)
		checkRows(t, "Seg", b.Seg(), 2, c.seg...)
		checkRows(t, "Add again", b.Add(rows), 2)
		checkRows(t, "Add of Seg", b.Add(b.Seg()), 2)
		checkLen(t, b, 5)
	}
}

// P10.2: a cost that is put and then improved by the same Add is returned once.
func TestAddOfOneKey(t *testing.T) {
	rows := rel(2, []int64{3, 7}, []int64{3, 5}, []int64{3, 6}, []int64{3, least}, []int64{3, most})
	checkRows(t, "the least", best.New(1, false).Add(rows), 2, []int64{3, least})
	checkRows(t, "the greatest", best.New(1, true).Add(rows), 2, []int64{3, most})
}

// P10.2: rows of another width are not put, and without rows nothing is.
func TestAddOfOtherWidths(t *testing.T) {
	b := best.New(1, false)
	b.Put([]int64{1}, 5)
	for _, s := range []*segment.Seg{nil, {}, rel(0), rel(2), rel(0, []int64{}), rel(1, []int64{1}), rel(1, []int64{0}), rel(3, []int64{1, 1, 1}), rel(math.MaxInt)} {
		checkRows(t, "Add", b.Add(s), 2)
	}
	checkLen(t, b, 1)
	checkRows(t, "Seg", b.Seg(), 2, []int64{1, 5})
}

// P10.2: what Add returned stays as it is, and so does what was added.
func TestAddIsSeparate(t *testing.T) {
	b := best.New(1, false)
	rows := rel(2, []int64{1, 5}, []int64{1, 7}, []int64{2, 8})
	first := b.Add(rows)
	for row := range first.All() {
		row[0], row[1] = 99, 99
	}
	second := b.Add(rel(2, []int64{1, 4}, []int64{2, 8}))
	b.Put([]int64{1}, 0)
	checkRows(t, "what was added", rows, 2, []int64{1, 5}, []int64{1, 7}, []int64{2, 8})
	checkRows(t, "the first Add", first, 2, []int64{1, 5}, []int64{2, 8})
	checkRows(t, "the second Add", second, 2, []int64{1, 4})
	checkRows(t, "Seg", b.Seg(), 2, []int64{1, 0}, []int64{2, 8})
}

// Rule 3: Put and Get neither change nor keep a key; two of Best have nothing in common.
func TestKeysAreCopied(t *testing.T) {
	a, b := best.New(2, false), best.New(2, false)
	key := make([]int64, 2, 8)
	key[0], key[1] = 1, 2
	checkPut(t, a, key, 5, true)
	checkGet(t, a, key, 5)
	if full := key[:cap(key)]; !slices.Equal(full, []int64{1, 2, 0, 0, 0, 0, 0, 0}) {
		t.Errorf("the key became %v", full)
	}
	key[0] = 9
	checkNone(t, a, key)
	checkGet(t, a, []int64{1, 2}, 5)
	checkRows(t, "Seg", a.Seg(), 3, []int64{1, 2, 5})
	checkNone(t, b, []int64{1, 2})
	checkLen(t, b, 0)
}

// P10.1, P10.2: random calls agree with a list that is gone through each time.
func TestRandomCalls(t *testing.T) {
	r := rand.New(rand.NewSource(1))
	for round := range 400 {
		width, great := r.Intn(3), round%2 == 0
		b, m := best.New(width, great), &list{width: width, great: great}
		draw := func(n int) []int64 {
			row := make([]int64, n)
			for k := range row {
				row[k] = int64(r.Intn(5) - 2)
			}
			return row
		}
		for range 30 {
			near := max(width+r.Intn(10)/9-r.Intn(10)/9, 0)
			if r.Intn(2) == 0 {
				key, cost := draw(near), int64(r.Intn(9)-4)
				checkPut(t, b, key, cost, m.put(key, cost))
				continue
			}
			var rows [][]int64
			for range r.Intn(8) {
				rows = append(rows, draw(near+1))
			}
			s := segment.Make(near+1, rows)
			checkRows(t, "Add", b.Add(s), width+1, m.add(s)...)
		}
		checkRows(t, "Seg", b.Seg(), width+1, slices.SortedFunc(slices.Values(m.rows), slices.Compare)...)
		checkLen(t, b, len(m.rows))
		for _, row := range m.rows {
			checkGet(t, b, row[:width], row[width])
		}
	}
}

// list is a Best by the words of the chapter.
type list struct {
	width int
	great bool
	rows  [][]int64
}

func (m *list) put(key []int64, cost int64) bool {
	if len(key) != m.width {
		return false
	}
	for _, row := range m.rows {
		if slices.Equal(row[:m.width], key) {
			if m.great && cost > row[m.width] || !m.great && cost < row[m.width] {
				row[m.width] = cost
				return true
			}
			return false
		}
	}
	m.rows = append(m.rows, append(slices.Clone(key), cost))
	return true
}

func (m *list) add(s *segment.Seg) [][]int64 {
	var keys [][]int64
	for row := range s.All() {
		if key := row[:len(row)-1]; m.put(key, row[len(row)-1]) {
			keys = append(keys, key)
		}
	}
	var rows [][]int64
	for _, row := range m.rows {
		if slices.ContainsFunc(keys, func(key []int64) bool { return slices.Equal(key, row[:m.width]) }) {
			rows = append(rows, slices.Clone(row))
		}
	}
	slices.SortFunc(rows, slices.Compare)
	return rows
}

// P10.1, P10.2: very many keys, and very many costs of one key.
func TestManyCosts(t *testing.T) {
	const count = 100000
	var keys, costs [][]int64
	for i := range int64(count) {
		keys = append(keys, []int64{i << 32, -i})
		costs = append(costs, []int64{7, i})
	}
	b := best.New(1, true)
	checkRows(t, "Add of keys", b.Add(segment.Make(2, keys)), 2, keys...)
	checkRows(t, "Add of costs", b.Add(segment.Make(2, costs)), 2, []int64{7, count - 1})
	checkLen(t, b, count+1)
	for _, row := range keys {
		checkGet(t, b, row[:1], row[1])
	}
}
