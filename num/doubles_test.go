package num_test

import (
	"math"
	"testing"

	"casket/api"
	"casket/num"
	"casket/soft"
)

// Promises 3.2 and 3.3: doubles, and a double beside a whole number.

func TestMixedAdd(t *testing.T) {
	add.want(t, d(0.5), i(1), d(1.5))
	add.want(t, i(1<<53+1), d(0), d(0x1p53)) // rounded ahead of the sum
	add.want(t, i(1<<53+1), d(1), d(0x1p53))
	add.want(t, i(most), d(1), d(0x1p63)) // never an overflow
	add.want(t, i(0), d(nought), d(0))
	add.want(t, d(nought), i(0), d(0))
	add.want(t, i(5), d(-infinity), d(-infinity))
	add.want(t, d(math.MaxFloat64), d(math.MaxFloat64), d(infinity))
	add.want(t, d(infinity), d(-infinity), nan())
}

func TestMixedSub(t *testing.T) {
	sub.want(t, d(1), i(1), d(0))
	sub.want(t, i(1), d(0.25), d(0.75))
	sub.want(t, d(nought), i(0), d(nought))
	sub.want(t, i(0), d(0), d(0))
	sub.want(t, i(least), d(1), d(-0x1p63))
	sub.want(t, i(1), d(infinity), d(-infinity))
	sub.want(t, d(infinity), d(infinity), nan())
}

func TestMixedMul(t *testing.T) {
	mul.want(t, i(3), d(0.5), d(1.5))
	mul.want(t, d(-0.5), i(3), d(-1.5))
	mul.want(t, i(0), d(-2), d(nought))
	mul.want(t, i(-1), d(0), d(nought))
	mul.want(t, i(least), d(-1), d(0x1p63))
	mul.want(t, i(0), d(infinity), nan())
	mul.want(t, i(-2), d(infinity), d(-infinity))
}

func TestMixedDiv(t *testing.T) {
	div.want(t, i(1), d(4), d(0.25))
	div.want(t, d(1), i(4), d(0.25))
	div.want(t, i(1), d(0), d(infinity))
	div.want(t, i(1), d(nought), d(-infinity))
	div.want(t, d(-1), i(0), d(-infinity))
	div.want(t, d(0), i(0), nan())
	div.want(t, i(0), d(nought), nan())
	div.want(t, i(7), d(-infinity), d(nought))
	div.want(t, d(infinity), d(infinity), nan())
}

func TestMixedFloorDiv(t *testing.T) {
	floorDiv.want(t, d(7), i(2), d(3))
	floorDiv.want(t, d(7), i(-2), d(-4))
	floorDiv.want(t, i(-7), d(-2), d(3))
	floorDiv.want(t, i(-7), d(2), d(-4))
	floorDiv.want(t, i(1), d(0), d(infinity))
	floorDiv.want(t, d(1), i(0), d(infinity))
	floorDiv.want(t, i(1), d(nought), d(-infinity))
	floorDiv.want(t, d(0), i(0), nan())
	floorDiv.want(t, i(0), d(-1), d(nought))
	floorDiv.want(t, i(1), d(-infinity), d(nought))
	floorDiv.want(t, d(0.5), i(1), d(0))
	floorDiv.want(t, d(-0.5), i(1), d(-1))
	floorDiv.want(t, i(least), d(-1), d(0x1p63)) // never an overflow
}

func TestMixedMod(t *testing.T) {
	mod.want(t, d(7), i(2), d(1))
	mod.want(t, i(7), d(-2), d(-1))
	mod.want(t, i(-7), d(2), d(1))
	mod.want(t, d(-7), i(-2), d(-1))
	mod.want(t, d(5.5), i(2), d(1.5))
	mod.want(t, d(-5.5), i(2), d(0.5))
	mod.want(t, d(6), i(2), d(0))
	mod.want(t, d(nought), i(2), d(0)) // -0 less 2 times -0
	mod.want(t, i(1), d(0), nan())
	mod.want(t, i(0), d(nought), nan())
	mod.want(t, i(1), d(infinity), nan()) // infinity times 0
	mod.want(t, d(infinity), i(1), nan())
}

// Each step of Mod is rounded: the exact rest would be another one.
func TestModRoundsEachStep(t *testing.T) {
	mod.want(t, i(1), d(0.1), d(0)) // ten times 0.1 is a little above 1 until it is rounded
	mod.want(t, d(1e300), i(3), d(stepped(1e300, 3)))
	mod.want(t, d(1e17), d(0.3), d(stepped(1e17, 0.3)))
}

// The conversions keep Go from rounding two steps as one.
func stepped(a, b float64) float64 {
	quotient := math.Floor(float64(a / b))
	product := float64(b * quotient)
	return a - product
}

// softly is what chapter 2 says of both as doubles.
func softly(name string, a, b uint64) uint64 {
	switch name {
	case "Add":
		return soft.Add(a, b)
	case "Sub":
		return soft.Sub(a, b)
	case "Mul":
		return soft.Mul(a, b)
	case "Div":
		return soft.Div(a, b)
	case "FloorDiv":
		return soft.Floor(soft.Div(a, b))
	}
	return soft.Sub(a, soft.Mul(b, soft.Floor(soft.Div(a, b))))
}

func asDouble(a api.Num) uint64 {
	if a.Whole {
		return soft.FromInt(a.Int)
	}
	return a.Bits
}

func TestMixedAgainstSoft(t *testing.T) {
	all := append(nums(), nans()...)
	for _, c := range calls() {
		for _, a := range all {
			for _, b := range all {
				if a.Whole && b.Whole && c.name != "Div" {
					continue
				}
				c.want(t, a, b, pattern(softly(c.name, asDouble(a), asDouble(b))))
			}
		}
	}
}

func TestMixedNumbersAgainstSoft(t *testing.T) {
	m := mixer(32)
	for range 20000 {
		whole, double := i(m.nextWhole()), pattern(m.next())
		other := pattern(m.next())
		for _, c := range calls() {
			c.want(t, whole, double, pattern(softly(c.name, asDouble(whole), double.Bits)))
			c.want(t, double, whole, pattern(softly(c.name, double.Bits, asDouble(whole))))
			c.want(t, double, other, pattern(softly(c.name, double.Bits, other.Bits)))
		}
	}
}

func TestNaNsBecomeCanonical(t *testing.T) {
	for _, n := range nans() {
		for _, c := range calls() {
			for _, a := range append(nums(), n) {
				c.want(t, n, a, nan())
				c.want(t, a, n, nan())
			}
		}
		wantNeg(t, n, nan(), api.OK)
	}
}

func TestNegDouble(t *testing.T) {
	wantNeg(t, d(0), d(nought), api.OK)
	wantNeg(t, d(nought), d(0), api.OK)
	wantNeg(t, d(2.5), d(-2.5), api.OK)
	wantNeg(t, d(infinity), d(-infinity), api.OK)
	wantNeg(t, d(-0x1p63), d(0x1p63), api.OK)
	for _, x := range doubleEdges() {
		wantNeg(t, d(x), d(math.Copysign(x, -math.Copysign(1, x))), api.OK)
	}
}

// The field that says nothing may hold anything, and is 0 in answers.
func TestFieldThatSaysNothing(t *testing.T) {
	some := []api.Num{i(0), i(1), i(-7), i(least), i(most), i(1<<53 + 1), d(0), d(nought), d(0.5), d(-7), d(0x1p53), d(0x1p63), d(infinity), nan()}
	for _, a := range some {
		for _, b := range some {
			for _, x := range junk(a) {
				for _, y := range junk(b) {
					checkJunk(t, a, b, x, y)
				}
			}
		}
	}
}

func checkJunk(t *testing.T, a, b, x, y api.Num) {
	t.Helper()
	for _, c := range calls() {
		if plain, e := c.do(a, b); e == api.OK {
			c.want(t, x, y, plain)
		} else {
			c.wantError(t, x, y, e)
		}
	}
	plain, e := num.Neg(a)
	wantNeg(t, x, plain, e)
	wantOrder(t, x, y, num.Less(a, b), num.Equal(a, b))
}

func TestAnswersKeepOneField(t *testing.T) {
	all := append(nums(), nans()...)
	for _, c := range calls() {
		for _, a := range all {
			for _, b := range all {
				got, e := c.do(a, b)
				switch {
				case e != api.OK && got != (api.Num{}):
					t.Errorf("%s(%v, %v): %v beside %d", c.name, a, b, got, e)
				case got.Whole && got.Bits != 0, !got.Whole && got.Int != 0:
					t.Errorf("%s(%v, %v): %v says too much", c.name, a, b, got)
				case e == api.OK && got.Whole != (a.Whole && b.Whole && c.name != "Div"):
					t.Errorf("%s(%v, %v): %v is of the wrong kind", c.name, a, b, got)
				}
			}
		}
	}
}
