package soft_test

import (
	"math"
	"math/big"
	"testing"

	"casket/api"
	"casket/soft"
)

// What the calls answer, held against exact fractions that are rounded once.

// exactOf is the exact number with a finite pattern, worked out from its parts.
func exactOf(a uint64) *big.Rat {
	exp, frac := int(a>>52&0x7ff), int64(a&(1<<52-1))
	if exp == 0 {
		exp = 1
	} else {
		frac |= 1 << 52
	}
	if a>>63 == 1 {
		frac = -frac
	}
	return new(big.Rat).Mul(new(big.Rat).SetInt64(frac), powerOfTwo(exp-1075))
}

func powerOfTwo(n int) *big.Rat {
	if n < 0 {
		return new(big.Rat).Inv(powerOfTwo(-n))
	}
	return new(big.Rat).SetInt(new(big.Int).Lsh(big.NewInt(1), uint(n)))
}

// roundedTo is the pattern of the nearest double; sign is that of a nought.
func roundedTo(x *big.Rat, sign uint64) uint64 {
	f, _ := x.Float64()
	if f == 0 {
		return sign
	}
	return math.Float64bits(f)
}

// exactSum has a nought's sign only if both are noughts (or what cancels) with that sign.
func exactSum(a, b uint64) uint64 {
	x := new(big.Rat).Add(exactOf(a), exactOf(b))
	return roundedTo(x, a&b&negative)
}

func exactProduct(a, b uint64) uint64 {
	x := new(big.Rat).Mul(exactOf(a), exactOf(b))
	return roundedTo(x, (a^b)&negative)
}

func exactQuotient(a, b uint64) uint64 {
	sign := (a ^ b) & negative
	if isNought(b) {
		if isNought(a) {
			return api.Canon
		}
		return sign | infinity
	}
	return roundedTo(new(big.Rat).Quo(exactOf(a), exactOf(b)), sign)
}

// 2.1: of each two finite numbers of the list.
func TestExactArithmetic(t *testing.T) {
	for _, a := range finiteOnes() {
		for _, b := range finiteOnes() {
			want := exactSum(a, b)
			if got := soft.Add(a, b); got != want {
				t.Errorf("Add(%016x, %016x): %016x, want %016x", a, b, got, want)
			}
			want = exactSum(a, b^negative)
			if got := soft.Sub(a, b); got != want {
				t.Errorf("Sub(%016x, %016x): %016x, want %016x", a, b, got, want)
			}
			want = exactProduct(a, b)
			if got := soft.Mul(a, b); got != want {
				t.Errorf("Mul(%016x, %016x): %016x, want %016x", a, b, got, want)
			}
			want = exactQuotient(a, b)
			if got := soft.Div(a, b); got != want {
				t.Errorf("Div(%016x, %016x): %016x, want %016x", a, b, got, want)
			}
		}
	}
}

// 2.1: of mixed patterns, whose exponents are near one another, so that digits of both count.
func TestExactMixed(t *testing.T) {
	m := mixer(1)
	for range 3000 {
		a := m.next()&^(0x7ff<<52) | (900+m.next()%200)<<52
		b := m.next()&^(0x7ff<<52) | (900+m.next()%200)<<52
		if got, want := soft.Add(a, b), exactSum(a, b); got != want {
			t.Errorf("Add(%016x, %016x): %016x, want %016x", a, b, got, want)
		}
		if got, want := soft.Mul(a, b), exactProduct(a, b); got != want {
			t.Errorf("Mul(%016x, %016x): %016x, want %016x", a, b, got, want)
		}
		if got, want := soft.Div(a, b), exactQuotient(a, b); got != want {
			t.Errorf("Div(%016x, %016x): %016x, want %016x", a, b, got, want)
		}
	}
}

// exactFloor rounds the quotient of numerator and denominator down; the denominator is above 0.
func exactFloor(x *big.Rat) *big.Int {
	q, r := new(big.Int).QuoRem(x.Num(), x.Denom(), new(big.Int))
	if r.Sign() < 0 {
		q.Sub(q, big.NewInt(1))
	}
	return q
}

// 2.2, 2.3: Floor and Trunc of each finite number of the list, and of mixed ones whose whole part has up to some 70 bits.
func TestExactWholeParts(t *testing.T) {
	list := finiteOnes()
	m := mixer(2)
	for range 3000 {
		list = append(list, m.next()&^(0x7ff<<52)|(1015+m.next()%80)<<52)
	}
	for _, a := range list {
		x := exactOf(a)
		want := roundedTo(new(big.Rat).SetInt(exactFloor(x)), 0)
		if isNought(a) {
			want = a
		}
		if got := soft.Floor(a); got != want {
			t.Errorf("Floor(%016x): %016x, want %016x", a, got, want)
		}
		if whole := new(big.Int).Quo(x.Num(), x.Denom()); whole.IsInt64() {
			wantTrunc(t, a, whole.Int64(), api.OK)
		} else {
			wantTrunc(t, a, 0, api.ErrRange)
		}
	}
}

// 2.3: FromInt around each power of two, where half of a last digit is met, and of mixed numbers.
func TestExactFromInt(t *testing.T) {
	var list []int64
	m := mixer(3)
	for n := range 64 {
		for d := int64(-5); d <= 5; d++ {
			list = append(list, int64(1)<<n+d, -int64(1)<<n+d)
		}
		list = append(list, int64(m.next()>>n), -int64(m.next()>>n))
	}
	for n := 54; n < 63; n++ {
		half := int64(1) << (n - 53)
		list = append(list, 1<<n+half, 1<<n+half-1, 1<<n+half+1, 1<<n+3*half, 1<<n+3*half-1, 1<<n+3*half+1)
	}
	for _, i := range list {
		want := roundedTo(new(big.Rat).SetInt64(i), 0)
		if got := soft.FromInt(i); got != want {
			t.Errorf("FromInt(%d): %016x, want %016x", i, got, want)
		}
	}
}

// 2.4: Narrow of each finite number of the list, and of mixed ones about the range of 32 bits.
func TestExactNarrow(t *testing.T) {
	list := finiteOnes()
	m := mixer(4)
	for range 5000 {
		list = append(list, m.next()&^(0x7ff<<52)|(865+m.next()%295)<<52)
	}
	for _, a := range list {
		f, _ := exactOf(a).Float32()
		want := math.Float32bits(f)&^(1<<31) | uint32(a>>63)<<31
		wantNarrow(t, a, want)
	}
}

// exactOf32 is the exact number with a finite pattern of 32 bits.
func exactOf32(a uint32) *big.Rat {
	exp, frac := int(a>>23&0xff), int64(a&(1<<23-1))
	if exp == 0 {
		exp = 1
	} else {
		frac |= 1 << 23
	}
	if a>>31 == 1 {
		frac = -frac
	}
	return new(big.Rat).Mul(new(big.Rat).SetInt64(frac), powerOfTwo(exp-150))
}

// 2.4: Wide is exact, of every exponent.
func TestExactWide(t *testing.T) {
	for _, a := range narrowOnes() {
		if a&0x7f800000 == 0x7f800000 {
			continue
		}
		want := roundedTo(exactOf32(a), uint64(a>>31)<<63)
		got := soft.Wide(a)
		if got != want || exactOf(got).Cmp(exactOf32(a)) != 0 {
			t.Errorf("Wide(%08x): %016x, want %016x", a, got, want)
		}
	}
}

// 2.5: the order of each two finite numbers of the list.
func TestExactOrder(t *testing.T) {
	for _, a := range finiteOnes() {
		for _, b := range finiteOnes() {
			c := exactOf(a).Cmp(exactOf(b))
			wantOrder(t, a, b, c < 0, c == 0)
		}
	}
}
