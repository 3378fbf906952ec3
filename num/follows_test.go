package num_test

import (
	"math/big"
	"testing"

	"casket/api"
	"casket/num"
)

// Promise 3.7, and what 3.1 says of the rest's sign.

func TestQuotientAndRest(t *testing.T) {
	for _, a := range wholeEdges() {
		for _, b := range wholeEdges() {
			checkTogether(t, a, b)
		}
	}
	m := mixer(37)
	for range 50000 {
		checkTogether(t, m.nextWhole(), m.nextWhole())
	}
}

func checkTogether(t *testing.T, a, b int64) {
	t.Helper()
	down, e := num.FloorDiv(i(a), i(b))
	rest, f := num.Mod(i(a), i(b))
	if f == api.OK && rest.Int != 0 && (rest.Int < 0) != (b < 0) {
		t.Errorf("Mod(%d, %d): %d is not of the divisor's sign", a, b, rest.Int)
	}
	if e != api.OK || f != api.OK {
		if b != 0 && (a != least || b != -1) {
			t.Errorf("FloorDiv and Mod of %d, %d: %d, %d", a, b, e, f)
		}
		return
	}
	together := new(big.Int).Mul(big.NewInt(b), big.NewInt(down.Int))
	together.Add(together, big.NewInt(rest.Int))
	if together.Cmp(big.NewInt(a)) != 0 {
		t.Errorf("%d by %d: %d times, and %d left, are %v together", a, b, down.Int, rest.Int, together)
	}
}
