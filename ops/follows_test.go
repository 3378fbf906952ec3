package ops_test

import (
	"math"
	"slices"
	"strings"
	"testing"

	"casket/api"
	"casket/num"
	"casket/ops"
)

// Promise 10.6 (W2), R1 and R4: small numbers and doubles whatever the heap has; words by chance; long lists of calls.

// arithmetic is chapter 3's, by operator.
var arithmetic = map[string]func(a, b api.Num) (api.Num, api.Errno){"+": num.Add, "-": num.Sub, "*": num.Mul, "/": num.Div, "//": num.FloorDiv, "%": num.Mod}

// asked are chapter 3's questions, by operator.
var asked = map[string]func(a, b api.Num) bool{
	"<": num.Less, "<=": num.LessEq, "==": num.Equal,
	">":  func(a, b api.Num) bool { return num.Less(b, a) },
	">=": func(a, b api.Num) bool { return num.LessEq(b, a) },
	"!=": func(a, b api.Num) bool { return !num.Equal(a, b) },
}

// numOf is a number, as chapter 3 has it.
func numOf(w uint64) api.Num {
	v, _ := valueIn(nil, w)
	if v.Kind == api.Int {
		return api.Num{Whole: true, Int: v.Int}
	}
	return api.Num{Bits: v.Bits}
}

// wantNum asks for what chapter 3 says of two words of numbers that need no cell: in a heap without a unit, and in another one.
func wantNum(t *testing.T, op string, a, b uint64) {
	t.Helper()
	none, some := newHeap(t, 0), newHeap(t, 2)
	if ask := asked[op]; ask != nil {
		wantBinary(t, none, op, a, b, isTruth(ask(numOf(a), numOf(b))))
		wantBinary(t, some, op, a, b, isTruth(ask(numOf(a), numOf(b))))
		return
	}
	n, e := arithmetic[op](numOf(a), numOf(b))
	switch {
	case e != api.OK:
		wantBinary(t, none, op, a, b, e)
		wantBinary(t, some, op, a, b, e)
	case n.Whole && needOf(isInt(n.Int)) > 0:
		wantBinary(t, none, op, a, b, api.ErrMemory)
		wantBinary(t, some, op, a, b, isInt(n.Int))
	case n.Whole:
		wantBinary(t, none, op, a, b, isInt(n.Int))
		wantBinary(t, some, op, a, b, isInt(n.Int))
	default:
		wantBinary(t, none, op, a, b, isBits(n.Bits))
		wantBinary(t, some, op, a, b, isBits(n.Bits))
	}
}

func TestSmallNumbersAndDoubles(t *testing.T) {
	var small, double []uint64
	for _, i := range wholes {
		if needOf(isInt(i)) == 0 {
			small = append(small, smallWord(i))
		}
	}
	for _, x := range doubles {
		double = append(double, canonical(x))
	}
	dice := chance(11)
	for range 20 {
		small = append(small, smallWord(int64(dice.next())>>(16+dice.below(47))))
		double = append(double, canonical(math.Float64frombits(dice.next())))
	}
	for _, op := range binaries {
		if arithmetic[op] == nil && asked[op] == nil {
			continue
		}
		for _, list := range [][]uint64{small, double} {
			for _, a := range list {
				for _, b := range list {
					wantNum(t, op, a, b)
				}
			}
		}
	}
}

// Words of any pattern, handed to all: each answer is a value, and none panics.
func TestWordsByChance(t *testing.T) {
	h := newHeap(t, 30)
	dice := chance(5)
	some := func() uint64 {
		switch dice.below(4) {
		case 0:
			return dice.next()
		case 1:
			return dice.next() | 0xfff8000000000000
		case 2:
			return dice.next()&0x0000ffffffffffff | uint64(0xfff8+dice.below(4))<<48
		}
		return handleWord(uint64(dice.below(20)))
	}
	for range 4000 {
		doUnary(t, h, unaries[dice.below(3)], some())
		doBinary(t, h, binaries[dice.below(len(binaries))], some(), some())
		name := names()[dice.below(len(arities))]
		list := make([]uint64, arities[name])
		for i := range list {
			list[i] = some()
		}
		doBuiltin(t, h, name, list)
		doTold(t, h, some())
	}
}

// Names of any length and bytes.
func TestNamesByChance(t *testing.T) {
	h := newHeap(t, 0)
	dice := chance(9)
	for range 3000 {
		b := make([]byte, dice.below(4))
		for i := range b {
			b[i] = "+-*/%&|^<>=!~not8ufirw6432 \x00\xff"[dice.below(29)]
		}
		name := string(b)
		doUnary(t, h, name, smallWord(6))
		doBinary(t, h, name, smallWord(6), smallWord(2))
		doBuiltin(t, h, name, args(smallWord(6)))
		if n, ok := ops.Arity(name); n != arities[name] || ok != (arities[name] > 0) {
			t.Fatalf("Arity(%q) is %d, %t", name, n, ok)
		}
	}
	long := strings.Repeat("int", 1<<16)
	wantUnary(t, h, long, smallWord(6), api.ErrArg)
	wantBinary(t, h, long, smallWord(6), smallWord(6), api.ErrArg)
	wantBuiltin(t, h, long, args(smallWord(6)), api.ErrName)
}

// player works with values by chance. The calls that it makes look at all that the heap holds behind them.
type player struct {
	chance
	desk
}

func newPlayer(t *testing.T, seed, units int) *player {
	return &player{chance: chance(seed), desk: *newDesk(t, units)}
}

// others are words that need no cell, and words that are no values.
var others = slices.Concat(plains, plains, plains, strays, nobodys)

// pick is some word: of a cell that is held, or another one.
func (p *player) pick() uint64 {
	switch n := p.below(8); {
	case n < 3 && len(p.keep) > 0:
		return p.keep[p.below(len(p.keep))]
	case n < 4:
		return smallWord(int64(p.below(20)) - 2)
	case n < 5:
		return smallWord(int64(p.next()) >> (16 + p.below(40)))
	case n < 6:
		return shortWord([]string{"u8", "i16", "f32", "f64", "row", "abc", "12", "inf"}[p.below(8)])
	}
	return others[p.below(len(others))]
}

func (p *player) step(t *testing.T) {
	t.Helper()
	var w uint64
	var e api.Errno
	switch p.below(6) {
	case 0:
		w, e = doUnary(t, p.h, unaries[p.below(3)], p.pick(), p.keep...)
	case 1, 2:
		w, e = doBinary(t, p.h, binaries[p.below(len(binaries))], p.pick(), p.pick(), p.keep...)
	default:
		name := names()[p.below(len(arities))]
		list := make([]uint64, arities[name])
		for i := range list {
			list[i] = p.pick()
		}
		w, e = doBuiltin(t, p.h, name, list, p.keep...)
	}
	if e == api.ErrMemory || p.below(10) == 0 {
		p.keep = slices.DeleteFunc(p.keep, func(uint64) bool { return p.below(3) == 0 })
	}
	if e == api.OK && w>>48 == 0xfffb {
		p.keep = append(p.keep, w)
	}
}

func TestLongLists(t *testing.T) {
	for seed, units := range []int{0, 1, 2, 3, 5, 10, 20, 40, 80} {
		p := newPlayer(t, seed, units)
		for range 3000 {
			p.step(t)
		}
	}
}

// Two heaps have nothing to do with each other: each does what it does alone.
func TestTwoHeaps(t *testing.T) {
	one, other, alone := newPlayer(t, 1, 40), newPlayer(t, 2, 60), newPlayer(t, 1, 40)
	for i := range 3000 {
		if i%5 < 3 {
			one.step(t)
		} else {
			other.step(t)
		}
	}
	for range 1800 {
		alone.step(t)
	}
	if !slices.Equal(one.keep, alone.keep) {
		t.Errorf("words beside another heap: %x; alone: %x", one.keep, alone.keep)
	}
	wantSame(t, one.h, "the same calls", held(alone.h))
}
