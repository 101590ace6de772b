// Package arith is layer 2, checked 64-bit integer arithmetic: see shared/doc/02-arith.md.
package arith

import (
	"math"
	"math/bits"
)

// Op is an arithmetic operator.
type Op int

// The operators.
const (
	Add Op = iota
	Sub
	Mul
	Div
	Mod
)

var signs = [...]string{"+", "-", "*", "/", "%"}

// Sign returns the operator's sign, or "" if it is none of the five.
func (o Op) Sign() string {
	if o < 0 || int(o) >= len(signs) {
		return ""
	}
	return signs[o]
}

// Do returns the exact result of the operation and true, or 0 and false if
// there is none or it does not fit into 64 bits.
func Do(o Op, a, b int64) (int64, bool) {
	switch o {
	case Add:
		return add(a, b)
	case Sub:
		return sub(a, b)
	case Mul:
		return mul(a, b)
	case Div:
		return div(a, b)
	case Mod:
		return mod(a, b)
	}
	return 0, false
}

func add(a, b int64) (int64, bool) {
	sum := a + b
	// Without wrapping around, the sum is below a exactly if b is negative.
	if (sum < a) != (b < 0) {
		return 0, false
	}
	return sum, true
}

func sub(a, b int64) (int64, bool) {
	diff := a - b
	// Without wrapping around, the difference is above a exactly if b is negative.
	if (diff > a) != (b < 0) {
		return 0, false
	}
	return diff, true
}

func mul(a, b int64) (int64, bool) {
	if a == 0 {
		return 0, true
	}
	product := a * b
	// Dividing back detects every wrap-around but this one, because the least
	// integer divided by -1 wraps around as well.
	if a == -1 && b == math.MinInt64 || product/a != b {
		return 0, false
	}
	return product, true
}

func div(a, b int64) (int64, bool) {
	if b == 0 || a == math.MinInt64 && b == -1 {
		return 0, false
	}
	return a / b, true
}

func mod(a, b int64) (int64, bool) {
	if b == 0 {
		return 0, false
	}
	return a % b, true
}

// Sum returns the exact sum of the elements and true, or 0 and false if it does
// not fit into 64 bits.
//
// It adds in 128 bits because a partial sum may leave the bounds although the
// whole one does not.
func Sum(list []int64) (int64, bool) {
	var high int64
	var low uint64
	for _, x := range list {
		var carry uint64
		low, carry = bits.Add64(low, uint64(x), 0)
		high += signWord(x) + int64(carry)
	}
	sum := int64(low)
	if high != signWord(sum) {
		return 0, false
	}
	return sum, true
}

// signWord returns the upper 64 bits of x in 128 bits.
func signWord(x int64) int64 {
	return x >> 63
}
