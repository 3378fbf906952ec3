package soft_test

import (
	"testing"

	"casket/api"
	"casket/soft"
)

const (
	negative = uint64(1) << 63
	one      = uint64(0x3ff0000000000000)
	two      = uint64(0x4000000000000000)
	three    = uint64(0x4008000000000000)
	half     = uint64(0x3fe0000000000000)
	least    = uint64(1)                  // the least number above 0
	greatSub = uint64(0x000fffffffffffff) // the greatest one below the normal ones
	leastNor = uint64(0x0010000000000000) // the least normal one
	greatest = uint64(0x7fefffffffffffff)
	infinity = uint64(0x7ff0000000000000)
)

// finiteOnes are the edges among the finite numbers, with both signs.
func finiteOnes() []uint64 {
	above := []uint64{
		0, least, 2, 3, 5, greatSub / 2, greatSub - 1, greatSub, leastNor, leastNor + 1,
		0x001fffffffffffff, 0x0020000000000000, // twice the least normal one, and its neighbour
		0x1e60000000000000, 0x1e6fffffffffffff, 0x2000000000000000, 0x2000000000000001, // roots of the least ones
		0x3690000000000000, 0x36a0000000000000, 0x3810000000000000, 0x380fffffffffffff, // the least ones of 32 bits
		0x3ca0000000000000, 0x3ca0000000000001, 0x3cb0000000000000, 0x3cb8000000000000, // 2^-53, 2^-52 and about them
		half, 0x3fefffffffffffff, one, one + 1, one + 2, 0x3ff8000000000000, two, two + 1, three, 0x4014000000000000,
		0x3fd5555555555555, 0x4059000000000001,
		0x47efffffe0000000, 0x47efffffefffffff, 0x47effffff0000000, 0x47f0000000000000, // the greatest one of 32 bits, and beyond
		0x432fffffffffffff, 0x4330000000000000, 0x4330000000000001, 0x433fffffffffffff, 0x4340000000000000, 0x4340000000000001, // 2^52, 2^53
		0x43dfffffffffffff, 0x43e0000000000000, 0x43e0000000000001, // 2^63
		0x5fe0000000000000, 0x5ff0000000000000, // roots of the greatest ones
		0x7c90000000000000, 0x7c80000000000000, 0x7ca0000000000000, // halves of the greatest one's last digit, and about them
		0x7fdfffffffffffff, 0x7fe0000000000000, greatest - 1, greatest,
	}
	var list []uint64
	for _, a := range above {
		list = append(list, a, a|negative)
	}
	return list
}

// nans are NaNs of both signs, quiet or not.
func nans() []uint64 {
	return []uint64{
		api.Canon, 0x7ff8000000000001, 0x7fffffffffffffff, 0x7ff0000000000001, 0x7ff7ffffffffffff, 0x7ff4000000000000,
		0xfff8000000000000, 0xfff8000000000123, 0xfff9000000000007, 0xffffffffffffffff, 0xfff0000000000001, 0xfff7ffffffffffff,
	}
}

// numbers are all of the lists but NaNs.
func numbers() []uint64 {
	return append(finiteOnes(), infinity, infinity|negative)
}

func allOnes() []uint64 { return append(numbers(), nans()...) }

// narrowOnes are patterns of 32 bits with each exponent and both signs.
func narrowOnes() []uint32 {
	var list []uint32
	for head := range uint32(1 << 9) {
		for _, frac := range []uint32{0, 1, 2, 0x2aaaaa, 0x3fffff, 0x400000, 0x400001, 0x7ffffe, 0x7fffff} {
			list = append(list, head<<23|frac)
		}
	}
	return list
}

// mixer makes a row of patterns that is always the same.
type mixer uint64

func (m *mixer) next() uint64 {
	*m += 0x9e3779b97f4a7c15
	x := uint64(*m)
	x = (x ^ x>>30) * 0xbf58476d1ce4e5b9
	x = (x ^ x>>27) * 0x94d049bb133111eb
	return x ^ x>>31
}

func isNaN(a uint64) bool { return a&^negative > infinity }

func isNought(a uint64) bool { return a&^negative == 0 }

func isNarrowNaN(a uint32) bool { return a&0x7fffffff > 0x7f800000 }

func wantPattern(t *testing.T, call string, got, want uint64) {
	t.Helper()
	if got != want {
		t.Errorf("%s: %016x, want %016x", call, got, want)
	}
}

func wantNarrow(t *testing.T, a uint64, want uint32) {
	t.Helper()
	if got := soft.Narrow(a); got != want {
		t.Errorf("Narrow(%016x): %08x, want %08x", a, got, want)
	}
}

func wantTrunc(t *testing.T, a uint64, want int64, e api.Errno) {
	t.Helper()
	if got, code := soft.Trunc(a); got != want || code != e {
		t.Errorf("Trunc(%016x): %d, %d, want %d, %d", a, got, code, want, e)
	}
}

func wantOrder(t *testing.T, a, b uint64, less, equal bool) {
	t.Helper()
	if soft.Less(a, b) != less {
		t.Errorf("Less(%016x, %016x): not %v", a, b, less)
	}
	if soft.Equal(a, b) != equal {
		t.Errorf("Equal(%016x, %016x): not %v", a, b, equal)
	}
	if soft.LessEq(a, b) != (less || equal) {
		t.Errorf("LessEq(%016x, %016x): not %v", a, b, less || equal)
	}
}
