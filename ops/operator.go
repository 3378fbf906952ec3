package ops

import (
	"casket/api"
	"casket/num"
	"casket/text"
	"casket/value"
	"casket/word"
)

// unary is what an operator of one word does; nil: there is no such operator.
func unary(op string) job {
	switch op {
	case "-":
		return call.negative
	case "~":
		return call.turned
	case "not":
		return call.other
	}
	return nil
}

func (c call) negative() (uint64, api.Errno) {
	n, ok := number(c.values[0])
	if !ok {
		return 0, api.ErrType
	}
	n, e := num.Neg(n)
	if e != api.OK {
		return 0, e
	}
	return c.boxNumber(n)
}

func (c call) turned() (uint64, api.Errno) {
	if !c.are(api.Int, 0) {
		return 0, api.ErrType
	}
	return c.boxInt(^c.values[0].Int)
}

func (c call) other() (uint64, api.Errno) {
	if !c.are(api.Bool, 0) {
		return 0, api.ErrType
	}
	return word.FromBool(c.values[0].Int == 0), api.OK
}

// binary is what an operator of two words does; nil: there is no such operator.
func binary(op string) job {
	switch op {
	case "+":
		return call.plus
	case "-":
		return reckons(num.Sub)
	case "*":
		return reckons(num.Mul)
	case "/":
		return reckons(num.Div)
	case "//":
		return reckons(num.FloorDiv)
	case "%":
		return reckons(num.Mod)
	case "==":
		return equates(true)
	case "!=":
		return equates(false)
	}
	if do := bitwise(op); do != nil {
		return do
	}
	return ordering(op)
}

// plus is of numbers, or of strings.
func (c call) plus() (uint64, api.Errno) {
	if c.are(api.Text, 0, 1) {
		return text.Concat(c.h, c.words[0], c.words[1], c.roots)
	}
	return reckons(num.Add)(c)
}

// reckons makes a job of one of chapter 3's calls.
func reckons(with func(a, b api.Num) (api.Num, api.Errno)) job {
	return func(c call) (uint64, api.Errno) {
		a, b, ok := c.numbers()
		if !ok {
			return 0, api.ErrType
		}
		n, e := with(a, b)
		if e != api.OK {
			return 0, e
		}
		return c.boxNumber(n)
	}
}

// bitwise is what an operator of two whole numbers alone does.
func bitwise(op string) job {
	switch op {
	case "&":
		return joins(func(a, b int64) (int64, api.Errno) { return a & b, api.OK })
	case "|":
		return joins(func(a, b int64) (int64, api.Errno) { return a | b, api.OK })
	case "^":
		return joins(func(a, b int64) (int64, api.Errno) { return a ^ b, api.OK })
	case "<<":
		return joins(num.Shl)
	case ">>":
		return joins(num.Shr)
	}
	return nil
}

func joins(with func(a, b int64) (int64, api.Errno)) job {
	return func(c call) (uint64, api.Errno) {
		if !c.are(api.Int, 0, 1) {
			return 0, api.ErrType
		}
		i, e := with(c.values[0].Int, c.values[1].Int)
		if e != api.OK {
			return 0, e
		}
		return c.boxInt(i)
	}
}

// ordering is what an operator does that asks which one of two is less.
func ordering(op string) job {
	switch op {
	case "<":
		return orders(num.Less, func(order int) bool { return order < 0 })
	case "<=":
		return orders(num.LessEq, func(order int) bool { return order <= 0 })
	case ">":
		return orders(swapped(num.Less), func(order int) bool { return order > 0 })
	case ">=":
		return orders(swapped(num.LessEq), func(order int) bool { return order >= 0 })
	}
	return nil
}

// swapped asks with the two in each other's place: beside a NaN that is not the opposite.
func swapped(asked func(a, b api.Num) bool) func(a, b api.Num) bool {
	return func(a, b api.Num) bool { return asked(b, a) }
}

// orders makes a job of what is asked of two numbers, and of how two strings stand to each other.
func orders(numbers func(a, b api.Num) bool, texts func(order int) bool) job {
	return func(c call) (uint64, api.Errno) {
		if a, b, ok := c.numbers(); ok {
			return word.FromBool(numbers(a, b)), api.OK
		}
		order, e := text.Compare(c.h, c.words[0], c.words[1]) // what is no string is refused there
		if e != api.OK {
			return 0, e
		}
		return word.FromBool(texts(order)), api.OK
	}
}

// equates makes a job that tells whether two are the same: true, if that is as it was asked.
func equates(asked bool) job {
	return func(c call) (uint64, api.Errno) {
		same, e := c.same()
		if e != api.OK {
			return 0, e
		}
		return word.FromBool(same == asked), api.OK
	}
}

// same holds numbers against each other as numbers, whole or not; all else is the same only within one kind.
func (c call) same() (bool, api.Errno) {
	if a, b, ok := c.numbers(); ok {
		return num.Equal(a, b), api.OK
	}
	return value.Same(c.h, c.words[0], c.words[1])
}
