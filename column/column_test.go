package column_test

import (
	"math"
	"math/big"
	"math/rand"
	"slices"
	"testing"

	"ergo/arith"
	"ergo/column"
)

const least, most = math.MinInt64, math.MaxInt64

// others are numbers that are no operators.
var others = []column.Op{-1, 6, 7, 99, math.MinInt64, math.MaxInt64}

// P3.1: the operators are numbered in order, and have their signs.
func TestSign(t *testing.T) {
	ops := []column.Op{column.Eq, column.Ne, column.Lt, column.Le, column.Gt, column.Ge}
	for i, sign := range []string{"=", "!=", "<", "<=", ">", ">="} {
		if int(ops[i]) != i || ops[i].Sign() != sign {
			t.Errorf("operator %d has the number %d and the sign %q, want %q", i, ops[i], ops[i].Sign(), sign)
		}
	}
	for _, o := range others {
		if got := o.Sign(); got != "" {
			t.Errorf("Op(%d).Sign() = %q, want nothing", o, got)
		}
	}
}

// P3.1: every operator, on pairs that are less, equal and greater, also where
// the difference of the two does not fit into 64 bits.
func TestHolds(t *testing.T) {
	pairs := []struct {
		a, b int64
		want [6]bool // by operator
	}{
		{1, 2, less}, {-2, -1, less}, {-1, 0, less}, {-5, 3, less}, {least, most, less}, {most - 1, most, less}, {least, least + 1, less},
		{0, 0, equal}, {7, 7, equal}, {-7, -7, equal}, {least, least, equal}, {most, most, equal},
		{2, 1, greater}, {-1, -2, greater}, {0, -1, greater}, {3, -5, greater}, {most, least, greater}, {most, most - 1, greater}, {least + 1, least, greater},
	}
	for _, p := range pairs {
		for o := column.Eq; o <= column.Ge; o++ {
			if got := column.Holds(o, p.a, p.b); got != p.want[o] {
				t.Errorf("Holds(%s, %d, %d) = %v", o.Sign(), p.a, p.b, got)
			}
		}
		for _, o := range others {
			if column.Holds(o, p.a, p.b) {
				t.Errorf("Holds(%d, %d, %d) must be false", o, p.a, p.b)
			}
		}
	}
}

// What each operator says of a pair, in the order = != < <= > >=.
var (
	less    = [6]bool{false, true, true, true, false, false}
	equal   = [6]bool{true, false, false, true, false, true}
	greater = [6]bool{false, true, false, false, true, true}
)

// P3.1: Where, with the example of the chapter.
func TestWhere(t *testing.T) {
	cases := []struct {
		o    column.Op
		col  []int64
		x    int64
		want []int
	}{
		{column.Ge, []int64{5, 2, 9}, 5, []int{0, 2}},
		{column.Eq, []int64{5, 2, 5}, 5, []int{0, 2}},
		{column.Ne, []int64{5, 2, 5}, 5, []int{1}},
		{column.Lt, []int64{5, 2, 9, -3}, 5, []int{1, 3}},
		{column.Le, []int64{5, 2, 9, -3}, 5, []int{0, 1, 3}},
		{column.Gt, []int64{5, 2, 9, 6}, 5, []int{2, 3}},
		{column.Gt, []int64{least, most}, least, []int{1}},
		{column.Lt, []int64{1, 2, 3}, 1, nil},
		{column.Ge, []int64{3, 2, 1}, least, []int{0, 1, 2}},
		{column.Ge, nil, 0, nil},
		{column.Eq, []int64{}, 0, nil},
	}
	for _, c := range cases {
		if got := column.Where(c.o, c.col, c.x); !slices.Equal(got, c.want) {
			t.Errorf("Where(%s, %v, %d) = %v, want %v", c.o.Sign(), c.col, c.x, got, c.want)
		}
	}
	for _, o := range others {
		if got := column.Where(o, []int64{1, 2, 3}, 2); len(got) != 0 {
			t.Errorf("Where(%d) = %v, want nothing", o, got)
		}
	}
}

// P3.1: Both looks at pairs up to the shorter length, whichever side has it.
func TestBoth(t *testing.T) {
	cases := []struct {
		o    column.Op
		a, b []int64
		want []int
	}{
		{column.Eq, []int64{1, 2, 3}, []int64{1, 0, 3}, []int{0, 2}},
		{column.Ne, []int64{1, 2, 3}, []int64{1, 0, 3}, []int{1}},
		{column.Lt, []int64{1, 2, 3}, []int64{2, 2, 2}, []int{0}},
		{column.Le, []int64{1, 2, 3}, []int64{2, 2, 2}, []int{0, 1}},
		{column.Gt, []int64{1, 2, 3}, []int64{2, 2, 2}, []int{2}},
		{column.Ge, []int64{1, 2, 3}, []int64{2, 2, 2}, []int{1, 2}},
		{column.Eq, []int64{4, 4, 4, 4}, []int64{4, 4}, []int{0, 1}},
		{column.Eq, []int64{4, 4}, []int64{4, 4, 4, 4}, []int{0, 1}},
		{column.Eq, nil, []int64{0, 0}, nil},
		{column.Eq, []int64{0, 0}, []int64{}, nil},
		{column.Eq, nil, nil, nil},
	}
	for _, c := range cases {
		if got := column.Both(c.o, c.a, c.b); !slices.Equal(got, c.want) {
			t.Errorf("Both(%s, %v, %v) = %v, want %v", c.o.Sign(), c.a, c.b, got, c.want)
		}
	}
	for _, o := range others {
		if got := column.Both(o, []int64{1, 2, 3}, []int64{1, 1, 4}); len(got) != 0 {
			t.Errorf("Both(%d) = %v, want nothing", o, got)
		}
	}
}

// P3.1: Where and Both agree with Holds on columns of any length.
func TestSelectionsOfManyColumns(t *testing.T) {
	r := rand.New(rand.NewSource(1))
	for range 2000 {
		a, b := randomColumn(r), randomColumn(r)
		x := int64(r.Intn(5) - 2)
		o := column.Op(r.Intn(8) - 1)
		var where, both []int
		for i := range a {
			if column.Holds(o, a[i], x) {
				where = append(where, i)
			}
			if i < len(b) && column.Holds(o, a[i], b[i]) {
				both = append(both, i)
			}
		}
		oldA, oldB := slices.Clone(a), slices.Clone(b)
		if got := column.Where(o, a, x); !slices.Equal(got, where) {
			t.Fatalf("Where(%d, %v, %d) = %v, want %v", o, a, x, got, where)
		}
		if got := column.Both(o, a, b); !slices.Equal(got, both) {
			t.Fatalf("Both(%d, %v, %v) = %v, want %v", o, a, b, got, both)
		}
		if !slices.Equal(a, oldA) || !slices.Equal(b, oldB) {
			t.Fatal("the columns were changed")
		}
	}
}

// randomColumn returns few different numbers, so that some are equal.
func randomColumn(r *rand.Rand) []int64 {
	col := make([]int64, r.Intn(20))
	for i := range col {
		col[i] = int64(r.Intn(5) - 2)
	}
	return col
}

// P3.2: Gather keeps order and repetitions, and skips indices out of range.
func TestGather(t *testing.T) {
	col := []int64{10, 11, 12}
	cases := []struct {
		col  []int64
		sel  []int
		want []int64
	}{
		{col, []int{0, 1, 2}, col},
		{col, []int{2, 0, 1}, []int64{12, 10, 11}},
		{col, []int{1, 1, 0, 1}, []int64{11, 11, 10, 11}},
		{col, []int{3}, nil},
		{col, []int{-1}, nil},
		{col, []int{-1, 2, 3, 0, math.MaxInt64, math.MinInt64, 2}, []int64{12, 10, 12}},
		{col, nil, nil},
		{nil, []int{0, 1}, nil},
		{nil, nil, nil},
	}
	for _, c := range cases {
		if got := column.Gather(c.col, c.sel); !slices.Equal(got, c.want) {
			t.Errorf("Gather(%v, %v) = %v, want %v", c.col, c.sel, got, c.want)
		}
	}
}

// P3.2: And returns what is in both lists.
func TestAnd(t *testing.T) {
	cases := []struct{ a, b, want []int }{
		{[]int{1, 3, 5}, []int{0, 3, 5, 6}, []int{3, 5}},
		{[]int{0, 3, 5, 6}, []int{1, 3, 5}, []int{3, 5}},
		{[]int{1, 2, 3}, []int{1, 2, 3}, []int{1, 2, 3}},
		{[]int{0, 2, 4}, []int{1, 3, 5}, nil},
		{[]int{0, 1}, []int{5, 6}, nil},
		{[]int{5, 6}, []int{0, 1}, nil},
		{[]int{9}, []int{1, 5, 9}, []int{9}},
		{[]int{1, 5, 9}, []int{1}, []int{1}},
		{[]int{math.MinInt64, -1, math.MaxInt64}, []int{math.MinInt64, 0, math.MaxInt64}, []int{math.MinInt64, math.MaxInt64}},
		{nil, []int{1}, nil},
		{[]int{1}, []int{}, nil},
		{nil, nil, nil},
	}
	for _, c := range cases {
		if got := column.And(c.a, c.b); !slices.Equal(got, c.want) {
			t.Errorf("And(%v, %v) = %v, want %v", c.a, c.b, got, c.want)
		}
	}
}

// P3.2: And on every pair of subsets of a few indices.
func TestAndOfAllSubsets(t *testing.T) {
	const n = 6
	for x := range 1 << n {
		for y := range 1 << n {
			a, b, want := subset(x), subset(y), subset(x&y)
			if got := column.And(a, b); !slices.Equal(got, want) {
				t.Fatalf("And(%v, %v) = %v, want %v", a, b, got, want)
			}
			if !slices.Equal(a, subset(x)) || !slices.Equal(b, subset(y)) {
				t.Fatal("the lists were changed")
			}
		}
	}
}

// subset returns the places of the bits that are set, ascending.
func subset(bits int) []int {
	var list []int
	for i := 0; bits>>i != 0; i++ {
		if bits>>i&1 == 1 {
			list = append(list, i)
		}
	}
	return list
}

// Lists that are not ascending are not promised a result, but must not panic.
func TestAndOfUnsortedLists(t *testing.T) {
	column.And([]int{5, 1, 1, 9, -4}, []int{2, 2, 9, 0, 5})
	column.And([]int{1, 1, 1}, []int{1})
}

// P3.2: Do of each operator, up to the shorter length.
func TestDo(t *testing.T) {
	cases := []struct {
		o          arith.Op
		a, b, want []int64
	}{
		{arith.Add, []int64{6, 7}, []int64{3, 0}, []int64{9, 7}},
		{arith.Sub, []int64{6, 7}, []int64{3, 10}, []int64{3, -3}},
		{arith.Mul, []int64{6, -7}, []int64{3, 2}, []int64{18, -14}},
		{arith.Div, []int64{-7, 7}, []int64{2, -2}, []int64{-3, -3}},
		{arith.Mod, []int64{-7, least}, []int64{2, -1}, []int64{-1, 0}},
		{arith.Add, []int64{1, 2, 3}, []int64{1}, []int64{2}},
		{arith.Add, []int64{1}, []int64{1, 2, 3}, []int64{2}},
		{arith.Div, []int64{8, 9}, []int64{2, 3, 0}, []int64{4, 3}},
		{arith.Add, []int64{8, most}, []int64{2}, []int64{10}},
		{arith.Add, nil, []int64{1}, nil},
		{arith.Add, []int64{1}, nil, nil},
		{arith.Div, nil, nil, nil},
	}
	for _, c := range cases {
		if got, at := column.Do(c.o, c.a, c.b); !slices.Equal(got, c.want) || at != -1 {
			t.Errorf("Do(%s, %v, %v) = %v %d, want %v -1", c.o.Sign(), c.a, c.b, got, at, c.want)
		}
	}
}

// P3.2: Do returns nothing but the first index at which there is no result.
func TestDoWithoutResult(t *testing.T) {
	cases := []struct {
		o    arith.Op
		a, b []int64
		at   int
	}{
		{arith.Div, []int64{6, 7, 8}, []int64{3, 0}, 1},
		{arith.Div, []int64{6, 7, 8}, []int64{0, 0, 0}, 0},
		{arith.Div, []int64{6, least, 8}, []int64{1, -1, 0}, 1},
		{arith.Mod, []int64{6, 7, 8}, []int64{1, 2, 0}, 2},
		{arith.Add, []int64{1, most}, []int64{1, 1}, 1},
		{arith.Sub, []int64{1, least}, []int64{1, 1}, 1},
		{arith.Mul, []int64{most, most}, []int64{1, 2}, 1},
		{-1, []int64{1, 2}, []int64{1, 2}, 0},
		{5, []int64{1, 2}, []int64{1, 2}, 0},
	}
	for _, c := range cases {
		if got, at := column.Do(c.o, c.a, c.b); len(got) != 0 || at != c.at {
			t.Errorf("Do(%d, %v, %v) = %v %d, want nothing and %d", c.o, c.a, c.b, got, at, c.at)
		}
	}
	if got, at := column.Do(5, nil, []int64{1}); len(got) != 0 || at != -1 {
		t.Errorf("Do of no pairs = %v %d, want nothing and -1", got, at)
	}
}

// P3.2: Do is exact or has no result, and leaves the columns as they are.
func TestDoOfManyColumns(t *testing.T) {
	r := rand.New(rand.NewSource(2))
	few := []int64{least, -3, -1, 0, 1, 2, 1 << 40, most}
	for range 2000 {
		a, b := make([]int64, r.Intn(4)), make([]int64, r.Intn(4))
		for _, col := range [][]int64{a, b} {
			for i := range col {
				col[i] = few[r.Intn(len(few))]
			}
		}
		oldA, oldB := slices.Clone(a), slices.Clone(b)
		want, wantAt := products(a, b)
		if got, at := column.Do(arith.Mul, a, b); !slices.Equal(got, want) || at != wantAt {
			t.Fatalf("Do(*, %v, %v) = %v %d, want %v %d", a, b, got, at, want, wantAt)
		}
		if !slices.Equal(a, oldA) || !slices.Equal(b, oldB) {
			t.Fatal("the columns were changed")
		}
	}
}

// products computes without bounds what Do must return for Mul.
func products(a, b []int64) ([]int64, int) {
	var list []int64
	for i := 0; i < len(a) && i < len(b); i++ {
		z := new(big.Int).Mul(big.NewInt(a[i]), big.NewInt(b[i]))
		if !z.IsInt64() {
			return nil, i
		}
		list = append(list, z.Int64())
	}
	return list, -1
}

// P3.2: Fill, up to the most that it is promised for.
func TestFill(t *testing.T) {
	cases := []struct {
		n    int
		x    int64
		want []int64
	}{
		{3, 7, []int64{7, 7, 7}},
		{2, least, []int64{least, least}},
		{1, 0, []int64{0}},
		{0, 7, nil},
		{-1, 7, nil},
		{math.MinInt64, 7, nil},
	}
	for _, c := range cases {
		if got := column.Fill(c.n, c.x); !slices.Equal(got, c.want) {
			t.Errorf("Fill(%d, %d) = %v, want %v", c.n, c.x, got, c.want)
		}
	}
	long := column.Fill(1000000, -1)
	if len(long) != 1000000 || slices.Max(long) != -1 || slices.Min(long) != -1 {
		t.Error("Fill must return a million elements as well")
	}
}

// Rule 3: results share no memory with arguments, so that changing one leaves the other.
func TestResultsAreNew(t *testing.T) {
	col, sel := []int64{1, 2, 3}, []int{0, 1, 2}
	gathered := column.Gather(col, sel)
	both := column.And(sel, sel)
	done, _ := column.Do(arith.Add, col, column.Fill(3, 0))
	gathered[0], both[0], done[1] = 9, 9, 9
	if !slices.Equal(col, []int64{1, 2, 3}) || !slices.Equal(sel, []int{0, 1, 2}) {
		t.Error("a result shares memory with an argument")
	}
}
