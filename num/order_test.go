package num_test

import (
	"math"
	"math/big"
	"testing"

	"casket/api"
	"casket/num"
)

// Promises 3.5 and 3.6: exact numbers in order.

// rising is a list in which each number is below the next one.
func rising() []api.Num {
	return []api.Num{
		d(-infinity), d(-math.MaxFloat64), d(-0x1p64), d(math.Nextafter(-0x1p63, -infinity)),
		i(least), i(least + 1), i(least + 1023), d(math.Nextafter(-0x1p63, 0)), i(least + 1025),
		d(-0x1p62), i(-1<<62 + 1), i(-1<<53 - 1), d(-0x1p53), i(-1<<53 + 1), d(-0x1p52 + 0.5),
		i(-3), d(-2.5), i(-2), d(-1.5), d(math.Nextafter(-1, -infinity)), i(-1), d(math.Nextafter(-1, 0)),
		d(-0.5), d(-math.SmallestNonzeroFloat64), i(0), d(math.SmallestNonzeroFloat64),
		d(0.5), d(math.Nextafter(1, 0)), i(1), d(math.Nextafter(1, infinity)), d(1.5), i(2), d(2.5), i(3),
		d(0x1p52 - 0.5), i(1 << 52), i(1<<53 - 1), d(0x1p53), i(1<<53 + 1), d(0x1p53 + 2), i(1<<53 + 3),
		i(1<<54 + 1), i(1<<54 + 2), i(1<<54 + 3), d(0x1p54 + 4),
		i(1<<62 - 1), d(0x1p62), i(1<<62 + 1), i(most - 1024), d(math.Nextafter(0x1p63, 0)), i(most - 1022),
		i(most - 1), i(most), d(0x1p63), d(math.Nextafter(0x1p63, infinity)), d(0x1p64), d(math.MaxFloat64), d(infinity),
	}
}

func TestRising(t *testing.T) {
	list := rising()
	for x, a := range list {
		for y, b := range list {
			wantOrder(t, a, b, x < y, x == y)
		}
	}
}

func TestSameNumber(t *testing.T) {
	for _, x := range []int64{0, 1, -1, 2, 7, 1 << 52, 1 << 53, -1 << 53, 1<<53 + 2, 1 << 62, -1 << 62, least, most - 1023, least + 1024} {
		wantOrder(t, i(x), d(float64(x)), false, true)
		wantOrder(t, d(float64(x)), i(x), false, true)
	}
	for _, zero := range []api.Num{i(0), d(0), d(nought)} {
		for _, other := range []api.Num{i(0), d(0), d(nought)} {
			wantOrder(t, zero, other, false, true)
		}
	}
}

// Rounded, these whole numbers would be the same as the double.
func TestNoRounding(t *testing.T) {
	for _, x := range []struct {
		whole  int64
		double float64
		below  bool
	}{
		{1<<53 + 1, 0x1p53, false}, {-1<<53 - 1, -0x1p53, true}, {1<<53 + 3, 0x1p53 + 4, true},
		{1<<62 + 1, 0x1p62, false}, {1<<62 - 1, 0x1p62, true}, {-1<<62 - 1, -0x1p62, true}, {-1<<62 + 1, -0x1p62, false},
		{most, 0x1p63, true}, {most - 1, 0x1p63, true}, {most - 510, 0x1p63, true}, {least + 1, -0x1p63, false}, {least + 511, -0x1p63, false},
	} {
		if float64(x.whole) != x.double {
			t.Fatalf("%d is not rounded to %v", x.whole, x.double)
		}
		wantOrder(t, i(x.whole), d(x.double), x.below, false)
		wantOrder(t, d(x.double), i(x.whole), !x.below, false)
	}
}

func TestPartsBehindThePoint(t *testing.T) {
	for _, x := range []float64{0.5, 1.5, 2.25, 1e10 + 0.5, 0x1p51 + 0.5, 0x1p52 - 0.5, -0.5, -1.5, -2.25, -0x1p51 - 0.5, -0x1p52 + 0.5} {
		down, up := i(int64(math.Floor(x))), i(int64(math.Ceil(x)))
		wantOrder(t, down, d(x), true, false)
		wantOrder(t, d(x), down, false, false)
		wantOrder(t, up, d(x), false, false)
		wantOrder(t, d(x), up, true, false)
	}
}

func TestInfinitiesAreOutermost(t *testing.T) {
	for _, a := range nums() {
		if a == d(infinity) || a == d(-infinity) {
			continue
		}
		wantOrder(t, a, d(infinity), true, false)
		wantOrder(t, d(infinity), a, false, false)
		wantOrder(t, d(-infinity), a, true, false)
		wantOrder(t, a, d(-infinity), false, false)
	}
	wantOrder(t, d(infinity), d(infinity), false, true)
	wantOrder(t, d(-infinity), d(-infinity), false, true)
	wantOrder(t, d(-infinity), d(infinity), true, false)
}

func TestNaNsAreInNoOrder(t *testing.T) {
	for _, n := range nans() {
		for _, a := range append(nums(), nans()...) {
			wantOrder(t, n, a, false, false)
			wantOrder(t, a, n, false, false)
		}
	}
}

// exactOrder is below 0, 0 or above 0, worked out on exact fractions.
func exactOrder(a, b api.Num) int {
	x, far := exactly(a)
	y, further := exactly(b)
	if far != 0 || further != 0 {
		return far - further
	}
	return x.Cmp(y)
}

// exactly is the number as a fraction; of an infinity its sign alone.
func exactly(a api.Num) (*big.Rat, int) {
	if a.Whole {
		return new(big.Rat).SetInt64(a.Int), 0
	}
	switch x := math.Float64frombits(a.Bits); x {
	case infinity:
		return nil, 1
	case -infinity:
		return nil, -1
	default:
		return new(big.Rat).SetFloat64(x), 0
	}
}

func checkOrder(t *testing.T, a, b api.Num) {
	t.Helper()
	o := exactOrder(a, b)
	wantOrder(t, a, b, o < 0, o == 0)
	wantOrder(t, b, a, o > 0, o == 0)
}

func TestOrderAgainstExact(t *testing.T) {
	for _, a := range nums() {
		for _, b := range nums() {
			checkOrder(t, a, b)
		}
	}
}

// Doubles that lie close to a whole number, of any length.
func TestOrderOfNeighbours(t *testing.T) {
	m := mixer(35)
	for range 20000 {
		x := m.nextWhole()
		near := float64(x)
		for _, y := range []float64{near, math.Nextafter(near, -infinity), math.Nextafter(near, infinity), near + 0.5, near - 0.5} {
			checkOrder(t, i(x), d(y))
		}
	}
}

func TestJustOneHolds(t *testing.T) {
	for _, a := range nums() {
		for _, b := range nums() {
			held := 0
			for _, holds := range []bool{num.Less(a, b), num.Equal(a, b), num.Less(b, a)} {
				if holds {
					held++
				}
			}
			if held != 1 {
				t.Errorf("%d of Less, Equal and Less turned round hold of %v and %v", held, a, b)
			}
			if num.LessEq(a, b) == num.Less(b, a) {
				t.Errorf("LessEq(%v, %v) is Less(%v, %v)", a, b, b, a)
			}
		}
	}
}

func TestLessIsTransitive(t *testing.T) {
	list := append(nums(), rising()...)
	for _, a := range list {
		for _, b := range list {
			if !num.Less(a, b) {
				continue
			}
			for _, c := range list {
				if num.Less(b, c) && !num.Less(a, c) {
					t.Fatalf("%v, %v, %v: Less is not transitive", a, b, c)
				}
			}
		}
	}
}
