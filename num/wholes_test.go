package num_test

import (
	"math/big"
	"testing"

	"casket/api"
)

// Promises 3.1, 3.3 and 3.4: whole numbers.

func TestAddWholes(t *testing.T) {
	add.want(t, i(2), i(3), i(5))
	add.want(t, i(-2), i(2), i(0))
	add.want(t, i(most), i(0), i(most))
	add.want(t, i(most-1), i(1), i(most))
	add.want(t, i(least+1), i(-1), i(least))
	add.want(t, i(least), i(most), i(-1))
	add.wantError(t, i(1), i(most), api.ErrOverflow)
	add.wantError(t, i(most), i(most), api.ErrOverflow)
	add.wantError(t, i(least), i(-1), api.ErrOverflow)
	add.wantError(t, i(-1), i(least), api.ErrOverflow)
	add.wantError(t, i(least), i(least), api.ErrOverflow)
}

func TestSubWholes(t *testing.T) {
	sub.want(t, i(2), i(3), i(-1))
	sub.want(t, i(least), i(0), i(least))
	sub.want(t, i(least), i(least), i(0))
	sub.want(t, i(-1), i(least), i(most))
	sub.want(t, i(-1), i(most), i(least))
	sub.want(t, i(most), i(most), i(0))
	sub.wantError(t, i(0), i(least), api.ErrOverflow)
	sub.wantError(t, i(-2), i(most), api.ErrOverflow)
	sub.wantError(t, i(most), i(-1), api.ErrOverflow)
	sub.wantError(t, i(most), i(least), api.ErrOverflow)
}

func TestMulWholes(t *testing.T) {
	mul.want(t, i(-6), i(7), i(-42))
	mul.want(t, i(0), i(least), i(0))
	mul.want(t, i(least), i(0), i(0))
	mul.want(t, i(least), i(1), i(least))
	mul.want(t, i(1), i(least), i(least))
	mul.want(t, i(most), i(-1), i(least+1))
	mul.want(t, i(-1), i(-most), i(most))
	mul.wantError(t, i(least), i(-1), api.ErrOverflow)
	mul.wantError(t, i(-1), i(least), api.ErrOverflow)
	mul.wantError(t, i(least), i(least), api.ErrOverflow)
	mul.wantError(t, i(most), i(most), api.ErrOverflow)
	mul.wantError(t, i(1<<32), i(1<<32), api.ErrOverflow)
}

func TestProductsThatJustFit(t *testing.T) {
	mul.want(t, i(-1<<32), i(1<<31), i(least))
	mul.want(t, i(1<<31), i(-1<<32), i(least))
	mul.want(t, i(-1<<62), i(2), i(least))
	mul.want(t, i(1<<62-1), i(2), i(most-1))
	mul.want(t, i(most/7), i(7), i(most))
	mul.want(t, i(3037000499), i(3037000499), i(9223372030926249001))
	mul.wantError(t, i(1<<31), i(1<<32), api.ErrOverflow)
	mul.wantError(t, i(-1<<31), i(-1<<32), api.ErrOverflow)
	mul.wantError(t, i(1<<62), i(2), api.ErrOverflow)
	mul.wantError(t, i(-1<<62-1), i(2), api.ErrOverflow)
	mul.wantError(t, i(most/7+1), i(7), api.ErrOverflow)
	mul.wantError(t, i(3037000500), i(3037000500), api.ErrOverflow)
}

func TestWholesAgainstExact(t *testing.T) {
	for _, a := range wholeEdges() {
		for _, b := range wholeEdges() {
			checkWholes(t, a, b)
		}
	}
	m := mixer(3)
	for range 100000 {
		checkWholes(t, m.nextWhole(), m.nextWhole())
	}
}

func checkWholes(t *testing.T, a, b int64) {
	t.Helper()
	x, y := big.NewInt(a), big.NewInt(b)
	add.wantExact(t, a, b, new(big.Int).Add(x, y))
	sub.wantExact(t, a, b, new(big.Int).Sub(x, y))
	mul.wantExact(t, a, b, new(big.Int).Mul(x, y))
	if b == 0 {
		floorDiv.wantError(t, i(a), i(b), api.ErrDivZero)
		mod.wantError(t, i(a), i(b), api.ErrDivZero)
		return
	}
	down, rest := floorOf(x, y)
	floorDiv.wantExact(t, a, b, down)
	mod.wantExact(t, a, b, rest)
}

// floorOf is the greatest number that is not above the quotient, and what is left.
func floorOf(x, y *big.Int) (down, rest *big.Int) {
	down, rest = new(big.Int).QuoRem(x, y, new(big.Int))
	if rest.Sign()*y.Sign() < 0 {
		down.Sub(down, big.NewInt(1))
		rest.Add(rest, y)
	}
	return down, rest
}

func TestDivWholes(t *testing.T) {
	div.want(t, i(6), i(3), d(2))
	div.want(t, i(-1), i(2), d(-0.5))
	div.want(t, i(1), i(3), d(1.0/3))
	div.want(t, i(-1), i(0), d(-infinity))
	div.want(t, i(0), i(0), nan())
	div.want(t, i(0), i(-1), d(nought))
	div.want(t, i(least), i(-1), d(0x1p63))
	div.want(t, i(most), i(1), d(0x1p63))
	// Both are rounded ahead of the quotient, 2^53 + 1 down and 2^53 + 3 up: the exact one is nearer to 1.
	div.want(t, i(1<<53+1), i(1<<53+3), d(1-0x1p-51))
}

func TestFloorDivAndModBySigns(t *testing.T) {
	for _, x := range []struct{ a, b, down, rest int64 }{
		{7, 2, 3, 1}, {-7, 2, -4, 1}, {7, -2, -4, -1}, {-7, -2, 3, -1},
		{6, 2, 3, 0}, {-6, 2, -3, 0}, {6, -2, -3, 0}, {-6, -2, 3, 0},
		{1, 10, 0, 1}, {-1, 10, -1, 9}, {1, -10, -1, -9}, {-1, -10, 0, -1},
		{0, 5, 0, 0}, {0, -5, 0, 0},
		{least, 1, least, 0}, {least, 2, -1 << 62, 0}, {least, most, -2, most - 1}, {least, least, 1, 0},
		{most, -1, -most, 0}, {most, least, -1, -1}, {most, most, 1, 0}, {-1, most, -1, most - 1}, {1, least, -1, least + 1},
		{least + 1, -1, most, 0}, {least, -2, 1 << 62, 0},
	} {
		floorDiv.want(t, i(x.a), i(x.b), i(x.down))
		mod.want(t, i(x.a), i(x.b), i(x.rest))
	}
}

func TestDivisorNought(t *testing.T) {
	for _, a := range wholeEdges() {
		floorDiv.wantError(t, i(a), i(0), api.ErrDivZero)
		mod.wantError(t, i(a), i(0), api.ErrDivZero)
	}
}

func TestNegWhole(t *testing.T) {
	wantNeg(t, i(5), i(-5), api.OK)
	wantNeg(t, i(-5), i(5), api.OK)
	wantNeg(t, i(0), i(0), api.OK)
	wantNeg(t, i(most), i(least+1), api.OK)
	wantNeg(t, i(least+1), i(most), api.OK)
	wantNeg(t, i(least), api.Num{}, api.ErrOverflow)
	for _, a := range wholeEdges() {
		if a != least {
			wantNeg(t, i(a), i(0-a), api.OK)
		}
	}
}

func TestShiftsOutside(t *testing.T) {
	for _, a := range wholeEdges() {
		for _, b := range []int64{-1, -2, -64, 64, 65, 127, 128, 1 << 32, 1<<32 + 1, -1 << 32, least, least + 1, most} {
			shl.want(t, a, b, 0, api.ErrShift)
			shr.want(t, a, b, 0, api.ErrShift)
		}
	}
}

func TestShlEdges(t *testing.T) {
	for _, x := range []struct {
		a, b, want int64
		e          api.Errno
	}{
		{0, 0, 0, api.OK}, {0, 1, 0, api.OK}, {0, 62, 0, api.OK}, {0, 63, 0, api.OK},
		{1, 0, 1, api.OK}, {1, 1, 2, api.OK}, {1, 62, 1 << 62, api.OK}, {1, 63, 0, api.ErrOverflow},
		{-1, 0, -1, api.OK}, {-1, 1, -2, api.OK}, {-1, 62, -1 << 62, api.OK}, {-1, 63, least, api.OK},
		{least, 0, least, api.OK}, {least, 1, 0, api.ErrOverflow}, {least, 62, 0, api.ErrOverflow}, {least, 63, 0, api.ErrOverflow},
		{most, 0, most, api.OK}, {most, 1, 0, api.ErrOverflow}, {most, 62, 0, api.ErrOverflow}, {most, 63, 0, api.ErrOverflow},
		{-2, 62, least, api.OK}, {-2, 63, 0, api.ErrOverflow}, {2, 62, 0, api.ErrOverflow}, {2, 63, 0, api.ErrOverflow},
		{3, 62, 0, api.ErrOverflow}, {4, 62, 0, api.ErrOverflow}, {5, 62, 0, api.ErrOverflow}, {-3, 62, 0, api.ErrOverflow},
	} {
		shl.want(t, x.a, x.b, x.want, x.e)
	}
}

func TestShrEdges(t *testing.T) {
	for _, x := range []struct{ a, b, want int64 }{
		{0, 0, 0}, {0, 63, 0}, {1, 0, 1}, {1, 1, 0}, {1, 62, 0}, {1, 63, 0},
		{-1, 0, -1}, {-1, 1, -1}, {-1, 62, -1}, {-1, 63, -1},
		{least, 0, least}, {least, 1, -1 << 62}, {least, 62, -2}, {least, 63, -1},
		{most, 0, most}, {most, 1, 1<<62 - 1}, {most, 62, 1}, {most, 63, 0},
		{5, 1, 2}, {-5, 1, -3}, {-5, 2, -2}, {-4, 2, -1},
	} {
		shr.want(t, x.a, x.b, x.want, api.OK)
	}
}

func TestShiftsAgainstExact(t *testing.T) {
	for _, a := range wholeEdges() {
		for b := range int64(64) {
			power := new(big.Int).Lsh(big.NewInt(1), uint(b))
			product := new(big.Int).Mul(big.NewInt(a), power)
			if product.IsInt64() {
				shl.want(t, a, b, product.Int64(), api.OK)
			} else {
				shl.want(t, a, b, 0, api.ErrOverflow)
			}
			down, _ := floorOf(big.NewInt(a), power)
			shr.want(t, a, b, down.Int64(), api.OK)
		}
	}
}
