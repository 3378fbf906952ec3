package num_test

import (
	"math"
	"math/big"
	"testing"

	"casket/api"
	"casket/num"
)

const (
	least = math.MinInt64
	most  = math.MaxInt64
)

// i and d are a whole number and a double.
func i(x int64) api.Num { return api.Num{Whole: true, Int: x} }

func d(x float64) api.Num { return api.Num{Bits: math.Float64bits(x)} }

func pattern(bits uint64) api.Num { return api.Num{Bits: bits} }

func nan() api.Num { return pattern(api.Canon) }

var (
	infinity = math.Inf(1)
	nought   = math.Copysign(0, -1)
)

// wholeEdges are the whole numbers at which something turns, and what lies next to them.
func wholeEdges() []int64 {
	list := []int64{
		least, least + 1, least + 2, most, most - 1, most - 2, 0, 1, -1, 2, -2, 3, -3, 5, 7, -7, 10, -10,
		3037000499, 3037000500, -3037000499, -3037000500, // about the root of 2^63
		most / 3, most/3 + 1, -(most / 3), -(most / 3) - 1, most / 7, -(most / 7), // 7 divides 2^63 - 1
	}
	for _, power := range []uint{15, 31, 32, 47, 52, 53, 54, 62} {
		two := int64(1) << power
		list = append(list, two-1, two, two+1, -two-1, -two, -two+1)
	}
	return list
}

// doubleEdges are the doubles at which something turns, NaNs aside.
func doubleEdges() []float64 {
	above := []float64{
		0, math.SmallestNonzeroFloat64, 0x1p-1022, 0x1p-53, 0.25, 0.5, 0.75, 1, 1.5, 2, 2.5, 3, 5.5, 7, 10, 0.1, 1e10 + 0.5,
		0x1p31, 0x1p32, 0x1p47, 0x1p51 + 0.5, 0x1p52 - 0.5, 0x1p52, 0x1p53 - 1, 0x1p53, 0x1p53 + 2, 0x1p54,
		0x1p62, 0x1p63, 0x1p64, 1e300, math.MaxFloat64, infinity,
	}
	for _, x := range []float64{1, 2, 0x1p53, 0x1p62, 0x1p63} {
		above = append(above, math.Nextafter(x, 0), math.Nextafter(x, infinity))
	}
	var list []float64
	for _, x := range above {
		list = append(list, x, -x)
	}
	return list
}

// nans are NaNs of both signs, quiet or not.
func nans() []api.Num {
	var list []api.Num
	for _, bits := range []uint64{
		api.Canon, 0x7ff8000000000001, 0x7fffffffffffffff, 0x7ff0000000000001, 0x7ff7ffffffffffff,
		0xfff8000000000000, 0xfff9000000000007, 0xffffffffffffffff, 0xfff0000000000001,
	} {
		list = append(list, pattern(bits))
	}
	return list
}

func wholeNums() []api.Num {
	var list []api.Num
	for _, x := range wholeEdges() {
		list = append(list, i(x))
	}
	return list
}

func doubleNums() []api.Num {
	var list []api.Num
	for _, x := range doubleEdges() {
		list = append(list, d(x))
	}
	return list
}

// nums are all of the lists but NaNs.
func nums() []api.Num { return append(wholeNums(), doubleNums()...) }

// mixer makes a row of patterns that is always the same.
type mixer uint64

func (m *mixer) next() uint64 {
	*m += 0x9e3779b97f4a7c15
	x := uint64(*m)
	x = (x ^ x>>30) * 0xbf58476d1ce4e5b9
	x = (x ^ x>>27) * 0x94d049bb133111eb
	return x ^ x>>31
}

// nextWhole is a whole number of any length.
func (m *mixer) nextWhole() int64 {
	return int64(m.next()) >> (m.next() % 64)
}

// junk is the same number, with something in the field that says nothing.
func junk(a api.Num) []api.Num {
	var list []api.Num
	for _, x := range []uint64{1, api.Canon, 1 << 63, math.MaxUint64, math.Float64bits(2.5)} {
		b := a
		if a.Whole {
			b.Bits = x
		} else {
			b.Int = int64(x)
		}
		list = append(list, b)
	}
	return list
}

type call struct {
	name string
	do   func(a, b api.Num) (api.Num, api.Errno)
}

// calls are those of two numbers.
func calls() []call {
	return []call{{"Add", num.Add}, {"Sub", num.Sub}, {"Mul", num.Mul}, {"Div", num.Div}, {"FloorDiv", num.FloorDiv}, {"Mod", num.Mod}}
}

func (c call) want(t *testing.T, a, b, want api.Num) {
	t.Helper()
	if got, e := c.do(a, b); got != want || e != api.OK {
		t.Errorf("%s(%v, %v): %v, %d, want %v", c.name, a, b, got, e, want)
	}
}

func (c call) wantError(t *testing.T, a, b api.Num, want api.Errno) {
	t.Helper()
	if got, e := c.do(a, b); got != (api.Num{}) || e != want {
		t.Errorf("%s(%v, %v): %v, %d, want the zero value and %d", c.name, a, b, got, e, want)
	}
}

// wantExact wants a result of whole numbers that was worked out without a bound.
func (c call) wantExact(t *testing.T, a, b int64, exact *big.Int) {
	t.Helper()
	if exact.IsInt64() {
		c.want(t, i(a), i(b), i(exact.Int64()))
		return
	}
	c.wantError(t, i(a), i(b), api.ErrOverflow)
}

var (
	add      = call{"Add", num.Add}
	sub      = call{"Sub", num.Sub}
	mul      = call{"Mul", num.Mul}
	div      = call{"Div", num.Div}
	floorDiv = call{"FloorDiv", num.FloorDiv}
	mod      = call{"Mod", num.Mod}
)

type shift struct {
	name string
	do   func(a, b int64) (int64, api.Errno)
}

var (
	shl = shift{"Shl", num.Shl}
	shr = shift{"Shr", num.Shr}
)

func (s shift) want(t *testing.T, a, b, want int64, e api.Errno) {
	t.Helper()
	if got, code := s.do(a, b); got != want || code != e {
		t.Errorf("%s(%d, %d): %d, %d, want %d, %d", s.name, a, b, got, code, want, e)
	}
}

func wantNeg(t *testing.T, a, want api.Num, e api.Errno) {
	t.Helper()
	if got, code := num.Neg(a); got != want || code != e {
		t.Errorf("Neg(%v): %v, %d, want %v, %d", a, got, code, want, e)
	}
}

func wantOrder(t *testing.T, a, b api.Num, less, equal bool) {
	t.Helper()
	if num.Less(a, b) != less {
		t.Errorf("Less(%v, %v): not %v", a, b, less)
	}
	if num.Equal(a, b) != equal {
		t.Errorf("Equal(%v, %v): not %v", a, b, equal)
	}
	if num.LessEq(a, b) != (less || equal) {
		t.Errorf("LessEq(%v, %v): not %v", a, b, less || equal)
	}
}
