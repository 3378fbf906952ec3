package vm

import (
	"math"

	"casket/api"
)

// fast is what an instruction does in another form than the generic one, of two values of the kind that the form is for. False: it gives up, as the outcome may be refused.
type fast func(a, b api.Value) (api.Value, bool)

// specialised are these, by what an instruction does, from opOperator on. There is none in the generic form, and none of operators that have no sites.
func specialised() [3 * operatorCount]fast {
	const whole, double = api.Whole * operatorCount, api.Double * operatorCount
	return [3 * operatorCount]fast{
		whole + plus:    wholes(func(a, b int64) (int64, bool) { return a + b, true }),
		whole + minus:   wholes(func(a, b int64) (int64, bool) { return a - b, true }),
		whole + times:   wholes(product),
		whole + by:      quotient,
		whole + floorBy: wholes(floorQuotient),
		whole + rest:    wholes(floorRest),
		whole + less:    ofWholes(isLess[int64]),
		whole + lessEq:  ofWholes(isLessEq[int64]),
		whole + more:    ofWholes(isMore[int64]),
		whole + moreEq:  ofWholes(isMoreEq[int64]),
		whole + equal:   ofWholes(isEqual[int64]),
		whole + unequal: ofWholes(isUnequal[int64]),

		double + plus:    doubles(func(a, b float64) float64 { return a + b }),
		double + minus:   doubles(func(a, b float64) float64 { return a - b }),
		double + times:   doubles(func(a, b float64) float64 { return a * b }),
		double + by:      doubles(func(a, b float64) float64 { return a / b }),
		double + floorBy: doubles(func(a, b float64) float64 { return math.Floor(a / b) }),
		double + rest:    doubles(stepwiseRest),
		double + less:    ofDoubles(isLess[float64]),
		double + lessEq:  ofDoubles(isLessEq[float64]),
		double + more:    ofDoubles(isMore[float64]),
		double + moreEq:  ofDoubles(isMoreEq[float64]),
		double + equal:   ofDoubles(isEqual[float64]),
		double + unequal: ofDoubles(isUnequal[float64]),
	}
}

// wholes are small here: no sum or difference of two wraps round.
func wholes(of func(a, b int64) (int64, bool)) fast {
	return func(a, b api.Value) (api.Value, bool) {
		i, ok := of(a.Int, b.Int)
		return api.Value{Kind: api.Int, Int: i}, ok
	}
}

func product(a, b int64) (int64, bool) {
	i := a * b
	return i, a == 0 || i/a == b
}

func floorQuotient(a, b int64) (int64, bool) {
	if b == 0 {
		return 0, false
	}
	i := a / b
	if a%b != 0 && (a < 0) != (b < 0) { // Go has rounded up
		i--
	}
	return i, true
}

func floorRest(a, b int64) (int64, bool) {
	if b == 0 {
		return 0, false
	}
	i := a % b
	if i != 0 && (i < 0) != (b < 0) { // Go's has the other sign
		i += b
	}
	return i, true
}

// quotient is a double, of whole numbers too: small ones are doubles as they are.
func quotient(a, b api.Value) (api.Value, bool) {
	return ofDouble(float64(a.Int) / float64(b.Int)), true
}

func ofDouble(x float64) api.Value { return api.Value{Kind: api.Float, Bits: math.Float64bits(x)} }

func doubles(of func(a, b float64) float64) fast {
	return func(a, b api.Value) (api.Value, bool) {
		return ofDouble(of(math.Float64frombits(a.Bits), math.Float64frombits(b.Bits))), true
	}
}

// stepwiseRest rounds each step: without the conversion Go might round two at once.
func stepwiseRest(a, b float64) float64 { return a - float64(b*math.Floor(a/b)) }

func ofTruth(b bool) api.Value {
	if b {
		return api.Value{Kind: api.Bool, Int: 1}
	}
	return api.Value{Kind: api.Bool}
}

func ofWholes(asked func(a, b int64) bool) fast {
	return func(a, b api.Value) (api.Value, bool) { return ofTruth(asked(a.Int, b.Int)), true }
}

func ofDoubles(asked func(a, b float64) bool) fast {
	return func(a, b api.Value) (api.Value, bool) {
		return ofTruth(asked(math.Float64frombits(a.Bits), math.Float64frombits(b.Bits))), true
	}
}

// number is what is held against another one. Beside a NaN all but isUnequal are false.
type number interface{ int64 | float64 }

func isLess[N number](a, b N) bool    { return a < b }
func isLessEq[N number](a, b N) bool  { return a <= b }
func isMore[N number](a, b N) bool    { return a > b }
func isMoreEq[N number](a, b N) bool  { return a >= b }
func isEqual[N number](a, b N) bool   { return a == b }
func isUnequal[N number](a, b N) bool { return a != b }
