package arith_test

import (
	"math"
	"math/big"
	"math/rand"
	"slices"
	"testing"

	"ergo/arith"
)

// edges are numbers near which an operation may leave the 64 bits.
func edges() []int64 {
	list := []int64{
		math.MinInt64, math.MinInt64 + 1, math.MinInt64 / 2, math.MinInt64/2 - 1,
		math.MaxInt64, math.MaxInt64 - 1, math.MaxInt64 / 2, math.MaxInt64/2 + 1,
		math.MinInt32, math.MaxInt32, math.MaxUint32, 3037000499, 3037000500, -3037000499, -3037000500,
	}
	for x := int64(-10); x <= 10; x++ {
		list = append(list, x)
	}
	return list
}

// exact computes the result without bounds; nil: there is none.
func exact(o arith.Op, a, b int64) *big.Int {
	x, y, z := big.NewInt(a), big.NewInt(b), new(big.Int)
	switch {
	case o == arith.Add:
		return z.Add(x, y)
	case o == arith.Sub:
		return z.Sub(x, y)
	case o == arith.Mul:
		return z.Mul(x, y)
	case o == arith.Div && b != 0:
		return z.Quo(x, y)
	case o == arith.Mod && b != 0:
		return z.Rem(x, y)
	}
	return nil
}

// bounded returns what the package must return for an exact result.
func bounded(z *big.Int) (int64, bool) {
	if z == nil || !z.IsInt64() {
		return 0, false
	}
	return z.Int64(), true
}

func checkDo(t *testing.T, o arith.Op, a, b int64) {
	t.Helper()
	want, wantOK := bounded(exact(o, a, b))
	if got, ok := arith.Do(o, a, b); got != want || ok != wantOK {
		t.Errorf("Do(%d, %d, %d) = %d %v, want %d %v", o, a, b, got, ok, want, wantOK)
	}
}

// P2.1: the operators are numbered in order, and have their signs.
func TestSign(t *testing.T) {
	ops := []arith.Op{arith.Add, arith.Sub, arith.Mul, arith.Div, arith.Mod}
	for i, sign := range []string{"+", "-", "*", "/", "%"} {
		if int(ops[i]) != i || ops[i].Sign() != sign {
			t.Errorf("operator %d has the number %d and the sign %q, want %q", i, ops[i], ops[i].Sign(), sign)
		}
	}
	for _, o := range []arith.Op{-1, 5, 99, math.MinInt64, math.MaxInt64} {
		if got := o.Sign(); got != "" {
			t.Errorf("Op(%d).Sign() = %q, want nothing", o, got)
		}
	}
}

// P2.1: cases written out, the example of the chapter among them.
func TestDo(t *testing.T) {
	cases := []struct {
		o    arith.Op
		a, b int64
		want int64
		ok   bool
	}{
		{arith.Add, 2, 3, 5, true},
		{arith.Add, math.MaxInt64, 1, 0, false},
		{arith.Add, math.MinInt64, -1, 0, false},
		{arith.Add, math.MaxInt64, math.MinInt64, -1, true},
		{arith.Sub, 2, 3, -1, true},
		{arith.Sub, 0, math.MinInt64, 0, false},
		{arith.Sub, -1, math.MinInt64, math.MaxInt64, true},
		{arith.Sub, math.MinInt64, 1, 0, false},
		{arith.Mul, -3, 4, -12, true},
		{arith.Mul, math.MinInt64, -1, 0, false},
		{arith.Mul, -1, math.MinInt64, 0, false},
		{arith.Mul, math.MinInt64, 1, math.MinInt64, true},
		{arith.Mul, 1 << 32, -(1 << 31), math.MinInt64, true},
		{arith.Mul, 1 << 32, 1 << 31, 0, false},
		{arith.Mul, 1 << 32, 1 << 32, 0, false},
		{arith.Div, -7, 2, -3, true},
		{arith.Div, 7, -2, -3, true},
		{arith.Div, -7, -2, 3, true},
		{arith.Div, math.MinInt64, -1, 0, false},
		{arith.Div, 5, 0, 0, false},
		{arith.Mod, -7, 2, -1, true},
		{arith.Mod, 7, -2, 1, true},
		{arith.Mod, -6, 2, 0, true},
		{arith.Mod, math.MinInt64, -1, 0, true},
		{arith.Mod, 5, 0, 0, false},
	}
	for _, c := range cases {
		if got, ok := arith.Do(c.o, c.a, c.b); got != c.want || ok != c.ok {
			t.Errorf("Do(%d, %d, %d) = %d %v, want %d %v", c.o, c.a, c.b, got, ok, c.want, c.ok)
		}
	}
}

// P2.1: every operator, on every pair of numbers near the bounds.
func TestDoAtEdges(t *testing.T) {
	for o := arith.Add; o <= arith.Mod; o++ {
		for _, a := range edges() {
			for _, b := range edges() {
				checkDo(t, o, a, b)
			}
		}
	}
}

// P2.1: the same on numbers of all lengths.
func TestDoOfManyNumbers(t *testing.T) {
	r := rand.New(rand.NewSource(1))
	for range 20000 {
		a := int64(r.Uint64()) >> r.Intn(64)
		b := int64(r.Uint64()) >> r.Intn(64)
		for o := arith.Add; o <= arith.Mod; o++ {
			checkDo(t, o, a, b)
		}
	}
}

// P2.1: any other operator has no result.
func TestDoWithoutOperator(t *testing.T) {
	for _, o := range []arith.Op{-1, 5, 9, math.MinInt64, math.MaxInt64} {
		if got, ok := arith.Do(o, 6, 3); got != 0 || ok {
			t.Errorf("Do(%d, 6, 3) = %d %v, want 0 false", o, got, ok)
		}
	}
}

// P2.2: cases written out; a partial sum may leave the bounds in either direction.
func TestSum(t *testing.T) {
	const least, most = math.MinInt64, math.MaxInt64
	cases := []struct {
		list []int64
		want int64
		ok   bool
	}{
		{nil, 0, true},
		{[]int64{}, 0, true},
		{[]int64{-4}, -4, true},
		{[]int64{1, 2, 3, -10}, -4, true},
		{[]int64{most}, most, true},
		{[]int64{least}, least, true},
		{[]int64{most, 1}, 0, false},
		{[]int64{least, -1}, 0, false},
		{[]int64{most, 5, -10}, most - 5, true},
		{[]int64{least, -5, 10}, least + 5, true},
		{[]int64{most, most, most, least, least, least}, -3, true},
		{[]int64{most, 1, -1}, most, true},
		{[]int64{least, -1, 1}, least, true},
		{[]int64{most, most, 2}, 0, false},
		{[]int64{least, least}, 0, false},
		{[]int64{least, least, least, least}, 0, false},
		{slices.Repeat([]int64{most, most, 1, 1}, 1000), 0, false},
	}
	for _, c := range cases {
		if got, ok := arith.Sum(c.list); got != c.want || ok != c.ok {
			t.Errorf("Sum(%v) = %d %v, want %d %v", c.list, got, ok, c.want, c.ok)
		}
	}
}

// P2.2: many lists of numbers near the bounds, which are left as they are.
func TestSumOfManyLists(t *testing.T) {
	r := rand.New(rand.NewSource(2))
	few := edges()
	for range 20000 {
		list := make([]int64, r.Intn(12))
		total := new(big.Int)
		for i := range list {
			list[i] = few[r.Intn(len(few))]
			total.Add(total, big.NewInt(list[i]))
		}
		before := slices.Clone(list)
		want, wantOK := bounded(total)
		if got, ok := arith.Sum(list); got != want || ok != wantOK {
			t.Fatalf("Sum(%v) = %d %v, want %d %v", list, got, ok, want, wantOK)
		}
		if !slices.Equal(list, before) {
			t.Fatalf("Sum changed %v to %v", before, list)
		}
	}
}
