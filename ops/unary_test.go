package ops_test

import (
	"math"
	"testing"

	"casket/api"
)

// Promise 10.2: Unary. The model looks at each answer, and at what the heap holds behind it.

func TestNegative(t *testing.T) {
	d := newDesk(t, 60)
	for _, x := range []struct {
		a    any
		want any
	}{
		{0, isInt(0)}, {1, isInt(-1)}, {-1, isInt(1)}, {5, isInt(-5)}, {1<<47 - 1, isInt(1 - 1<<47)}, {-1 << 47, isInt(1 << 47)}, {1 << 47, isInt(-1 << 47)}, {-1<<47 - 1, isInt(1<<47 + 1)},
		{1 << 53, isInt(-1 << 53)}, {1<<53 + 1, isInt(-1<<53 - 1)}, {most, isInt(-most)}, {-most, isInt(most)}, {least, api.ErrOverflow},
		{0.0, isBits(1 << 63)}, {math.Copysign(0, -1), isBits(0)}, {1.0, isDouble(-1)}, {-0.1, isDouble(0.1)}, {0x1p53, isDouble(-0x1p53)}, {0x1p63, isDouble(-0x1p63)}, {-0x1p63, isDouble(0x1p63)},
		{math.Inf(1), isDouble(math.Inf(-1))}, {math.Inf(-1), isDouble(math.Inf(1))}, {math.NaN(), isBits(api.Canon)}, {0x1p-1074, isBits(1<<63 | 1)}, {math.MaxFloat64, isDouble(-math.MaxFloat64)},
		{nil, api.ErrType}, {true, api.ErrType}, {false, api.ErrType}, {"", api.ErrType}, {"1", api.ErrType}, {"-1", api.ErrType}, {"hello!", api.ErrType},
	} {
		wantUnary(t, d.h, "-", d.word(t, x.a), x.want, d.keep...)
	}
}

func TestTurned(t *testing.T) {
	d := newDesk(t, 60)
	for _, x := range []struct {
		a    any
		want any
	}{
		{0, isInt(-1)}, {-1, isInt(0)}, {1, isInt(-2)}, {5, isInt(-6)}, {0x5555, isInt(-0x5556)}, {1<<47 - 1, isInt(-1 << 47)}, {-1 << 47, isInt(1<<47 - 1)}, {1 << 47, isInt(-1<<47 - 1)}, {-1<<47 - 1, isInt(1 << 47)},
		{1 << 53, isInt(-1<<53 - 1)}, {1 << 62, isInt(-1<<62 - 1)}, {most, isInt(least)}, {least, isInt(most)}, {least + 1, isInt(most - 1)},
		{0.0, api.ErrType}, {1.0, api.ErrType}, {math.NaN(), api.ErrType}, {math.Inf(1), api.ErrType}, {nil, api.ErrType}, {true, api.ErrType}, {"", api.ErrType}, {"1", api.ErrType}, {"hello!", api.ErrType},
	} {
		wantUnary(t, d.h, "~", d.word(t, x.a), x.want, d.keep...)
	}
}

func TestNot(t *testing.T) {
	d := newDesk(t, 60)
	for _, x := range []struct {
		a    any
		want any
	}{
		{true, isTruth(false)}, {false, isTruth(true)},
		{nil, api.ErrType}, {0, api.ErrType}, {1, api.ErrType}, {1 << 47, api.ErrType}, {0.0, api.ErrType}, {1.0, api.ErrType}, {math.NaN(), api.ErrType}, {"", api.ErrType}, {"true", api.ErrType}, {"hello!", api.ErrType},
	} {
		wantUnary(t, d.h, "not", d.word(t, x.a), x.want, d.keep...)
	}
}

// A small number may stand in a cell: it is a whole number as well, and what comes of it stands in a word.
func TestUnaryOfSmallNumbersInCells(t *testing.T) {
	d := newDesk(t, 20)
	for _, i := range []int64{0, 1, -1, 5, 1<<47 - 1, 1 - 1<<47} {
		w := d.put(t, number(i))
		if got := wantUnary(t, d.h, "-", w, isInt(-i), d.keep...); got != smallWord(-i) {
			t.Errorf("Unary(-) of %d in a cell is %x", i, got)
		}
		if got := wantUnary(t, d.h, "~", w, isInt(-i-1), d.keep...); got != smallWord(-i-1) {
			t.Errorf("Unary(~) of %d in a cell is %x", i, got)
		}
	}
}

// Words of every class, cells of every sort, and things.
func TestUnaryOfEachWord(t *testing.T) {
	s := newSample(t)
	for _, op := range unaries {
		for _, x := range s.bads() {
			wantUnary(t, s.h, op, x.w, x.e, s.keep...)
		}
	}
	for _, op := range unaries {
		for _, w := range s.all() {
			doUnary(t, s.h, op, w, s.keep...)
		}
	}
	for _, w := range s.keep {
		wantUnary(t, s.h, "not", w, api.ErrType, s.keep...)
	}
}

// What is no operator is told ahead of all else.
func TestNoUnary(t *testing.T) {
	s := newSample(t)
	for _, op := range noUnaries {
		for _, w := range s.ofEachKind(t) {
			wantUnary(t, s.h, op, w, api.ErrArg)
		}
		for _, x := range s.bads() {
			wantUnary(t, s.h, op, x.w, api.ErrArg)
		}
	}
	for _, op := range binaries {
		if op != "-" {
			wantUnary(t, s.h, op, smallWord(1), api.ErrArg)
		}
	}
	for _, name := range names() {
		wantUnary(t, s.h, name, smallWord(1), api.ErrArg)
	}
}

// What turns twice is what it was.
func TestUnaryTwice(t *testing.T) {
	d := newDesk(t, 80)
	for _, i := range wholes {
		w := d.whole(t, i)
		x := wantUnary(t, d.h, "~", w, isInt(^i), d.keep...)
		wantUnary(t, d.h, "~", x, isInt(i), append(d.keep, x)...)
		if i != least {
			x = wantUnary(t, d.h, "-", w, isInt(-i), d.keep...)
			wantUnary(t, d.h, "-", x, isInt(i), append(d.keep, x)...)
		}
	}
	for _, x := range doubles {
		w := wantUnary(t, d.h, "-", canonical(x), isDouble(-x))
		wantUnary(t, d.h, "-", w, isDouble(x))
	}
}
