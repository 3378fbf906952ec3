package soft_test

import (
	"fmt"
	"testing"

	"casket/api"
	"casket/soft"
)

// pair is a call with two patterns, and what it must answer.
type pair struct{ a, b, want uint64 }

func wantPairs(t *testing.T, name string, f func(a, b uint64) uint64, list []pair) {
	t.Helper()
	for _, x := range list {
		wantPattern(t, fmt.Sprintf("%s(%016x, %016x)", name, x.a, x.b), f(x.a, x.b), x.want)
	}
}

// 2.1: sums, the edges by hand.
func TestAdd(t *testing.T) {
	wantPairs(t, "Add", soft.Add, []pair{
		{one, two, three},
		{0, 0, 0}, {0, negative, 0}, {negative, 0, 0}, {negative, negative, negative},
		{one, one | negative, 0}, {three | negative, three, 0}, // what cancels has no sign
		{one + 1, one | negative, 0x3cb0000000000000},
		{one, 0x3ca0000000000000, one},         // half a last digit: the even one is below
		{one + 1, 0x3ca0000000000000, one + 2}, // and above
		{one, 0x3ca0000000000001, one + 1},     // just more than half
		{one | negative, 0xbca0000000000000, one | negative},
		{least, least, 2}, {greatSub, least, leastNor}, {leastNor, least | negative, greatSub},
		{least, least | negative, 0}, {leastNor, greatSub | negative, least},
		{greatest, greatest, infinity}, {greatest, 0x7c90000000000000, infinity}, // half a last digit beyond
		{greatest, 0x7c8fffffffffffff, greatest}, {greatest | negative, 0xfc90000000000000, infinity | negative},
		{infinity, one, infinity}, {infinity | negative, greatest, infinity | negative}, {infinity, infinity, infinity},
		{infinity, infinity | negative, api.Canon}, {infinity | negative, infinity, api.Canon},
	})
}

// 2.1: differences.
func TestSub(t *testing.T) {
	wantPairs(t, "Sub", soft.Sub, []pair{
		{three, two, one}, {two, three, one | negative},
		{0, 0, 0}, {negative, 0, negative}, {0, negative, 0}, {negative, negative, 0},
		{one, one, 0}, {one | negative, one | negative, 0},
		{leastNor, least, greatSub}, {least, 2, least | negative},
		{greatest | negative, greatest, infinity | negative},
		{one, 0x3c90000000000000, one}, {one, 0x3c90000000000001, one - 1}, // below a power of two the digits are finer
		{infinity, infinity, api.Canon}, {infinity | negative, infinity | negative, api.Canon},
		{infinity, infinity | negative, infinity}, {one, infinity, infinity | negative},
	})
}

// 2.1: products.
func TestMul(t *testing.T) {
	wantPairs(t, "Mul", soft.Mul, []pair{
		{two, three, 0x4018000000000000}, {two | negative, three, 0xc018000000000000}, {one | negative, one | negative, one},
		{0, one, 0}, {negative, one, negative}, {0, one | negative, negative}, {negative, one | negative, 0},
		{least, half, 0}, {least | negative, half, negative}, // half of the least one: the even one is 0
		{3, half, 2}, {5, half, 2}, {7, half, 4}, // ties below the normal numbers
		{least, 0x3fe0000000000001, least},
		{0x001fffffffffffff, half, leastNor}, {0x0010000000000001, half, 0x0008000000000000}, // a digit is lost
		{greatSub, two, 0x001ffffffffffffe}, {leastNor, half, 0x0008000000000000},
		{0x0018000000000001, 0x3feffffffffffffe, 0x0018000000000000 - 1}, // what is taken away is just more than one digit and a half
		{greatest, two, infinity}, {greatest, two | negative, infinity | negative}, {greatest, one + 1, infinity},
		{0x7fe0000000000000, 0x3fffffffffffffff, greatest},
		{infinity, two, infinity}, {infinity | negative, two, infinity | negative}, {infinity, least | negative, infinity | negative},
		{infinity, infinity | negative, infinity | negative},
		{0, infinity, api.Canon}, {infinity, 0, api.Canon}, {negative, infinity, api.Canon}, {infinity | negative, negative, api.Canon},
	})
}

// 2.1: what ends below the normal numbers is rounded there, and there alone: rounded to 53 digits ahead of that, it would be a tie, and go to the other side.
func TestRoundedOnce(t *testing.T) {
	wantPairs(t, "Mul", soft.Mul, []pair{
		{0x1e50000002d413cc, 0x1e5ffffffa57d869, 1}, // just above half of the least one
		{0x1e50000000000002, 0x1e77fffffffffffd, 1}, // just below three halves of it
		{3, 0x3fdfffffffffffff, 1}, {1, 0x3fdfffffffffffff, 0},
	})
	wantPairs(t, "Div", soft.Div, []pair{
		{0x20b7ffffffffffff, 0x63cfffffffffffff, 1}, // just below three halves of the least one
		{0x20b8000000000000, 0x63d0000000000000, 2}, // three halves of it
	})
}

// 2.1: quotients.
func TestDiv(t *testing.T) {
	wantPairs(t, "Div", soft.Div, []pair{
		{one, two, half}, {one, three, 0x3fd5555555555555}, {two, three, 0x3fe5555555555555}, {one | negative, three, 0xbfd5555555555555},
		{one, 0, infinity}, {one, negative, infinity | negative}, {one | negative, 0, infinity | negative}, {one | negative, negative, infinity},
		{least, 0, infinity}, {infinity, 0, infinity}, {infinity, negative, infinity | negative},
		{0, one, 0}, {negative, one, negative}, {0, one | negative, negative}, {0, infinity, 0}, {0, infinity | negative, negative},
		{one, infinity, 0}, {one | negative, infinity, negative}, {greatest, infinity | negative, negative},
		{0, 0, api.Canon}, {0, negative, api.Canon}, {negative, 0, api.Canon}, {negative, negative, api.Canon},
		{infinity, infinity, api.Canon}, {infinity, infinity | negative, api.Canon}, {infinity | negative, infinity, api.Canon},
		{infinity, one | negative, infinity | negative},
		{least, two, 0}, {3, two, 2}, {5, two, 2}, {least | negative, two, negative}, {2, three, 1}, {4, three, 1},
		{greatest, half, infinity}, {one, least, infinity}, {greatest, least, infinity}, {leastNor, two, 0x0008000000000000},
		{least, greatest, 0}, {greatest, greatest, one}, {least, least, one}, {leastNor, least, 0x4330000000000000},
		{0x001fffffffffffff, two, leastNor}, // below the normal numbers the last digit is a tie, and goes to the even one
	})
}

// 2.1: what has a NaN on either side is Canon.
func TestNaNsWithin(t *testing.T) {
	for _, n := range nans() {
		for _, a := range allOnes() {
			for name, f := range map[string]func(a, b uint64) uint64{"Add": soft.Add, "Sub": soft.Sub, "Mul": soft.Mul, "Div": soft.Div} {
				wantPattern(t, fmt.Sprintf("%s(%016x, %016x)", name, n, a), f(n, a), api.Canon)
				wantPattern(t, fmt.Sprintf("%s(%016x, %016x)", name, a, n), f(a, n), api.Canon)
			}
		}
	}
}

// 2.2: Neg turns the sign bit alone.
func TestNeg(t *testing.T) {
	for _, a := range numbers() {
		wantPattern(t, fmt.Sprintf("Neg(%016x)", a), soft.Neg(a), a^negative)
	}
	for _, a := range nans() {
		wantPattern(t, fmt.Sprintf("Neg(%016x)", a), soft.Neg(a), api.Canon)
	}
}

// 2.2: Floor.
func TestFloor(t *testing.T) {
	for _, x := range []struct{ a, want uint64 }{
		{0, 0}, {negative, negative}, {infinity, infinity}, {infinity | negative, infinity | negative},
		{least, 0}, {greatSub, 0}, {leastNor, 0}, {half, 0}, {0x3fefffffffffffff, 0}, // above 0, below 1: without sign
		{least | negative, one | negative}, {greatSub | negative, one | negative}, {leastNor | negative, one | negative},
		{half | negative, one | negative}, {0xbfefffffffffffff, one | negative},
		{one, one}, {one | negative, one | negative}, {one + 1, one}, {0xbff0000000000001, two | negative},
		{0x3ff8000000000000, one}, {0xbff8000000000000, two | negative}, {0x4005555555555555, two}, {0xc005555555555555, three | negative},
		{0x432fffffffffffff, 0x432ffffffffffffe}, {0xc32fffffffffffff, 0xc330000000000000}, // 2^52 - 1/2
		{0x4330000000000001, 0x4330000000000001}, {0xc330000000000001, 0xc330000000000001}, {0x43e0000000000001, 0x43e0000000000001},
		{greatest, greatest}, {greatest | negative, greatest | negative},
	} {
		wantPattern(t, fmt.Sprintf("Floor(%016x)", x.a), soft.Floor(x.a), x.want)
	}
	for _, a := range nans() {
		wantPattern(t, fmt.Sprintf("Floor(%016x)", a), soft.Floor(a), api.Canon)
	}
}

// 2.3: FromInt.
func TestFromInt(t *testing.T) {
	for _, x := range []struct {
		i    int64
		want uint64
	}{
		{0, 0}, {1, one}, {-1, one | negative}, {3, three},
		{1<<53 - 1, 0x433fffffffffffff}, {1 << 53, 0x4340000000000000}, {1<<53 + 2, 0x4340000000000001},
		{1<<53 + 1, 0x4340000000000000}, {1<<53 + 3, 0x4340000000000002}, // ties, down and up
		{-1<<53 - 1, 0xc340000000000000}, {-1<<53 - 3, 0xc340000000000002},
		{1<<54 + 2, 0x4350000000000000}, {1<<54 + 3, 0x4350000000000001}, {1<<54 + 6, 0x4350000000000002},
		{-1 << 63, 0xc3e0000000000000}, {-1<<63 + 1, 0xc3e0000000000000}, {-1<<63 + 512, 0xc3e0000000000000}, {-1<<63 + 513, 0xc3dfffffffffffff},
		{1<<63 - 1, 0x43e0000000000000}, {1<<63 - 512, 0x43e0000000000000}, {1<<63 - 513, 0x43dfffffffffffff}, {1<<63 - 1024, 0x43dfffffffffffff},
	} {
		wantPattern(t, fmt.Sprintf("FromInt(%d)", x.i), soft.FromInt(x.i), x.want)
	}
}

// 2.3: Trunc.
func TestTrunc(t *testing.T) {
	for _, x := range []struct {
		a    uint64
		want int64
	}{
		{0, 0}, {negative, 0}, {least, 0}, {least | negative, 0}, {half, 0}, {0xbfefffffffffffff, 0},
		{one, 1}, {one | negative, -1}, {0x3fffffffffffffff, 1}, {0xbfffffffffffffff, -1}, {0xc005000000000000, -2},
		{0x432fffffffffffff, 1<<52 - 1}, {0xc32fffffffffffff, -1<<52 + 1}, {0x4340000000000001, 1<<53 + 2},
		{0x43dfffffffffffff, 1<<63 - 1024}, {0xc3dfffffffffffff, -1<<63 + 1024}, {0xc3e0000000000000, -1 << 63},
	} {
		wantTrunc(t, x.a, x.want, api.OK)
	}
	refused := append(nans(), infinity, infinity|negative, 0x43e0000000000000, 0x43e0000000000001, 0xc3e0000000000001,
		0x43f0000000000000, 0xc3f0000000000000, greatest, greatest|negative)
	for _, a := range refused {
		wantTrunc(t, a, 0, api.ErrRange)
	}
}

// 2.4: Narrow.
func TestNarrow(t *testing.T) {
	for _, x := range []struct {
		a    uint64
		want uint32
	}{
		{0, 0}, {negative, 1 << 31}, {one, 0x3f800000}, {two | negative, 0xc0000000}, {infinity, 0x7f800000}, {infinity | negative, 0xff800000},
		{0x3ff0000010000000, 0x3f800000}, {0x3ff0000010000001, 0x3f800001}, {0x3ff0000030000000, 0x3f800002}, {0x3ff000002fffffff, 0x3f800001},
		{least, 0}, {least | negative, 1 << 31}, {leastNor, 0},
		{0x3690000000000000, 0}, {0xb690000000000000, 1 << 31}, {0x3690000000000001, 1}, {0x36a0000000000000, 1}, // 2^-150, 2^-149
		{0x36a8000000000000, 2}, {0x36a7ffffffffffff, 1}, // a tie below the normal ones
		{0x380fffffc0000000, 0x007fffff}, {0x380fffffdfffffff, 0x007fffff}, {0x380fffffe0000000, 0x00800000}, {0x3810000000000000, 0x00800000},
		{0x47efffffe0000000, 0x7f7fffff}, {0x47efffffefffffff, 0x7f7fffff}, {0x47effffff0000000, 0x7f800000}, {0xc7effffff0000000, 0xff800000},
		{0x47f0000000000000, 0x7f800000}, {greatest, 0x7f800000}, {greatest | negative, 0xff800000},
	} {
		wantNarrow(t, x.a, x.want)
	}
	for _, a := range nans() {
		wantNarrow(t, a, 0x7fc00000)
	}
}

// 2.4: Wide.
func TestWide(t *testing.T) {
	for _, x := range []struct {
		a    uint32
		want uint64
	}{
		{0, 0}, {1 << 31, negative}, {0x3f800000, one}, {0xc0000000, two | negative}, {0x7f800000, infinity}, {0xff800000, infinity | negative},
		{1, 0x36a0000000000000}, {0x80000001, 0xb6a0000000000000}, {0x007fffff, 0x380fffffc0000000}, {0x00800000, 0x3810000000000000},
		{0x7f7fffff, 0x47efffffe0000000}, {0x3eaaaaab, 0x3fd5555560000000},
	} {
		wantPattern(t, fmt.Sprintf("Wide(%08x)", x.a), soft.Wide(x.a), x.want)
	}
	for _, a := range narrowOnes() {
		if isNarrowNaN(a) {
			wantPattern(t, fmt.Sprintf("Wide(%08x)", a), soft.Wide(a), api.Canon)
		}
	}
}

// 2.5: in a row that rises, each is below those behind it.
func TestOrder(t *testing.T) {
	rising := []uint64{
		infinity | negative, greatest | negative, two | negative, one | negative, leastNor | negative, greatSub | negative, least | negative,
		0, least, greatSub, leastNor, half, one, one + 1, two, greatest, infinity,
	}
	for i, a := range rising {
		for j, b := range rising {
			wantOrder(t, a, b, i < j, i == j)
		}
	}
}

// 2.5: noughts are the same.
func TestOrderOfNoughts(t *testing.T) {
	for _, a := range []uint64{0, negative} {
		for _, b := range []uint64{0, negative} {
			wantOrder(t, a, b, false, true)
		}
		wantOrder(t, a, least, true, false)
		wantOrder(t, least|negative, a, true, false)
	}
}

// 2.5: nothing holds beside a NaN, not even of one and itself.
func TestOrderOfNaNs(t *testing.T) {
	for _, n := range nans() {
		for _, a := range allOnes() {
			wantOrder(t, n, a, false, false)
			wantOrder(t, a, n, false, false)
		}
	}
}
