package ops_test

import (
	"math"
	"slices"
	"testing"

	"casket/api"
)

// Promise 10.4: the built-in functions of numbers.

// answered is an argument, and what is answered of it.
type answered struct{ x, want any }

// wantEach asks a built-in function of one argument.
func wantEach(t *testing.T, name string, list []answered) {
	t.Helper()
	for _, x := range list {
		d := newDesk(t, 40)
		wantBuiltin(t, d.h, name, d.words(t, x.x), x.want, d.keep...)
	}
}

func TestInt(t *testing.T) {
	wantEach(t, "int", []answered{
		{0, isInt(0)}, {-5, isInt(-5)}, {1<<47 - 1, isInt(1<<47 - 1)}, {1 << 47, isInt(1 << 47)}, {most, isInt(most)}, {least, isInt(least)},
		{0.0, isInt(0)}, {math.Copysign(0, -1), isInt(0)}, {0.9, isInt(0)}, {-0.9, isInt(0)}, {2.625, isInt(2)}, {-2.625, isInt(-2)}, {0x1p-1074, isInt(0)},
		{0x1p47 - 0.5, isInt(1<<47 - 1)}, {0x1p47, isInt(1 << 47)}, {-0x1p47 - 0.5, isInt(-1 << 47)}, {-0x1p47 - 1, isInt(-1<<47 - 1)}, {0x1p53, isInt(1 << 53)}, {0x1p53 + 2, isInt(1<<53 + 2)},
		{0x1p63 - 1024, isInt(1<<63 - 1024)}, {-0x1p63, isInt(least)}, {0x1p63, api.ErrRange}, {-0x1p63 - 2048, api.ErrRange}, {math.MaxFloat64, api.ErrRange}, {math.Inf(1), api.ErrRange}, {math.Inf(-1), api.ErrRange}, {math.NaN(), api.ErrRange},
		{nil, api.ErrType}, {true, api.ErrType}, {false, api.ErrType}, {"", api.ErrType}, {"1", api.ErrType}, {"1234567", api.ErrType},
	})
}

func TestFloat(t *testing.T) {
	wantEach(t, "float", []answered{
		{0, isBits(0)}, {1, isDouble(1)}, {-7, isDouble(-7)}, {1 << 47, isDouble(0x1p47)}, {1<<53 - 1, isDouble(0x1p53 - 1)}, {1<<53 + 1, isDouble(0x1p53)}, {1<<53 + 3, isDouble(0x1p53 + 4)}, {-1<<53 - 1, isDouble(-0x1p53)},
		{most, isDouble(0x1p63)}, {most - 511, isDouble(0x1p63)}, {most - 512, isDouble(0x1p63 - 1024)}, {most - 1023, isDouble(0x1p63 - 1024)}, {least, isDouble(-0x1p63)}, {least + 1, isDouble(-0x1p63)},
		{0.0, isBits(0)}, {math.Copysign(0, -1), isBits(1 << 63)}, {0.1, isDouble(0.1)}, {math.Inf(-1), isDouble(math.Inf(-1))}, {math.NaN(), isBits(api.Canon)}, {0x1p-1074, isBits(1)},
		{nil, api.ErrType}, {true, api.ErrType}, {"", api.ErrType}, {"1", api.ErrType}, {"0x1p+0", api.ErrType},
	})
}

// A whole number is itself, and a double: the word that was handed in. No unit is asked for.
func TestIntAndFloatOfItself(t *testing.T) {
	for _, i := range []int64{0, 5, -1, 1 << 47, most, least} {
		h := newHeap(t, 2)
		w := put(t, h, number(i))
		if got := wantBuiltin(t, h, "int", args(w), isInt(i)); got != w {
			t.Errorf("int of %x is %x", w, got)
		}
	}
	h := newHeap(t, 0)
	for _, x := range doubles {
		if got := wantBuiltin(t, h, "float", args(canonical(x)), isDouble(x)); got != canonical(x) {
			t.Errorf("float of %x is %x", canonical(x), got)
		}
	}
}

func TestChr(t *testing.T) {
	wantEach(t, "chr", []answered{
		{-1, api.ErrRange}, {0, isText("\x00")}, {1, isText("\x01")}, {65, isText("A")}, {127, isText("\x7f")}, {128, isText("\x80")}, {233, isText("\xe9")}, {254, isText("\xfe")}, {255, isText("\xff")}, {256, api.ErrRange}, {257, api.ErrRange}, {-256, api.ErrRange}, {-191, api.ErrRange},
		{1 << 16, api.ErrRange}, {1<<32 + 65, api.ErrRange}, {1 << 47, api.ErrRange}, {1<<56 + 65, api.ErrRange}, {most, api.ErrRange}, {least, api.ErrRange}, {least + 65, api.ErrRange},
		{65.0, api.ErrType}, {0.0, api.ErrType}, {math.NaN(), api.ErrType}, {"A", api.ErrType}, {"", api.ErrType}, {nil, api.ErrType}, {true, api.ErrType}, {"hello!", api.ErrType},
	})
	h := newHeap(t, 10)
	for i := range 256 {
		w := wantBuiltin(t, h, "chr", args(smallWord(int64(i))), isText(string([]byte{byte(i)})))
		wantBuiltin(t, h, "byte", args(w, smallWord(0)), isInt(int64(i)))
		wantBuiltin(t, h, "len", args(w), isInt(1))
		five := put(t, h, number(int64(i)))
		wantBuiltin(t, h, "chr", args(five), isText(string([]byte{byte(i)})))
	}
}

func TestBits(t *testing.T) {
	wantEach(t, "bits", []answered{
		{0.0, isInt(0)}, {math.Copysign(0, -1), isInt(least)}, {1.0, isInt(0x3ff0000000000000)}, {-1.0, isInt(-0x4010000000000000)}, {0x1p-1074, isInt(1)}, {-0x1p-1074, isInt(least + 1)},
		{math.Inf(1), isInt(0x7ff0000000000000)}, {math.Inf(-1), isInt(-0x10000000000000)}, {math.NaN(), isInt(0x7ff8000000000000)}, {math.MaxFloat64, isInt(0x7fefffffffffffff)},
		{0, api.ErrType}, {1, api.ErrType}, {1 << 60, api.ErrType}, {nil, api.ErrType}, {true, api.ErrType}, {"", api.ErrType}, {"1", api.ErrType}, {"0x1p+0", api.ErrType},
	})
}

func TestFromBits(t *testing.T) {
	wantEach(t, "frombits", []answered{
		{0, isBits(0)}, {1, isBits(1)}, {least, isBits(1 << 63)}, {least + 1, isBits(1<<63 | 1)}, {0x3ff0000000000000, isDouble(1)}, {0x7ff0000000000000, isDouble(math.Inf(1))}, {-0x10000000000000, isDouble(math.Inf(-1))}, {0x7fefffffffffffff, isDouble(math.MaxFloat64)},
		{0x7ff8000000000000, isBits(api.Canon)}, {0x7ff8000000000001, isBits(api.Canon)}, {0x7ff0000000000001, isBits(api.Canon)}, {most, isBits(api.Canon)}, {-1, isBits(api.Canon)}, {-0x8000000000000, isBits(api.Canon)}, {-0xfffffffffffff, isBits(api.Canon)},
		{0.0, api.ErrType}, {1.0, api.ErrType}, {math.NaN(), api.ErrType}, {nil, api.ErrType}, {false, api.ErrType}, {"", api.ErrType}, {"1", api.ErrType}, {"hello!", api.ErrType},
	})
}

// No pattern of a NaN comes out as a word of something else, whatever it looks like (W2); other patterns lead there and back.
func TestBitsThereAndBack(t *testing.T) {
	h := newHeap(t, 30)
	patterns := slices.Concat(strays, nobodys, plains, []uint64{
		0xfff8000000000000, 0xfff8000000000001, 0xfff9000000000005, 0xfffa020000006261, 0xfffb000000000000, 0xfff0000000000001, 0xfff7ffffffffffff, 0x7ff7ffffffffffff, 0x7ff8000000000002, 0x7fffffffffffffff,
	})
	for _, x := range doubles {
		patterns = append(patterns, math.Float64bits(x))
	}
	dice := chance(3)
	for range 300 {
		patterns = append(patterns, dice.next(), dice.next()|0x7ff0000000000000, dice.next()|0xfff8000000000000)
	}
	for _, x := range patterns {
		i := smallWord(int64(x))
		if int64(x) < -1<<47 || int64(x) >= 1<<47 {
			i = put(t, h, number(int64(x)))
		}
		w := wantBuiltin(t, h, "frombits", args(i), isDouble(math.Float64frombits(x)))
		wantBuiltin(t, h, "bits", args(w), isInt(int64(canonical(math.Float64frombits(x)))))
		wantBuiltin(t, h, "kind", args(w), isText("float"))
	}
}

func TestNum(t *testing.T) {
	wantEach(t, "num", []answered{
		{"0", isInt(0)}, {"42", isInt(42)}, {"-7", isInt(-7)}, {"140737488355327", isInt(1<<47 - 1)}, {"140737488355328", isInt(1 << 47)}, {"9223372036854775807", isInt(most)}, {"-9223372036854775808", isInt(least)}, {"9223372036854775808", api.ErrRange}, {"-9223372036854775809", api.ErrRange},
		{"", api.ErrForm}, {"x", api.ErrForm}, {"-", api.ErrForm}, {"-0", api.ErrForm}, {"07", api.ErrForm}, {"+1", api.ErrForm}, {" 1", api.ErrForm}, {"1 ", api.ErrForm}, {"1.5", api.ErrForm}, {"1e3", api.ErrForm}, {"0x1", api.ErrForm}, {"0X1p+0", api.ErrForm}, {"1\x00", api.ErrForm}, {"nil", api.ErrForm}, {"true", api.ErrForm}, {"NaN", api.ErrForm}, {"+inf", api.ErrForm}, {"-nan", api.ErrForm},
		{"0x1p+0", isDouble(1)}, {"0x18p-4", isDouble(1.5)}, {"-0x0p+0", isBits(1 << 63)}, {"0x0p+0", isBits(0)}, {"nan", isBits(api.Canon)}, {"inf", isDouble(math.Inf(1))}, {"-inf", isDouble(math.Inf(-1))}, {"0x1p-1074", isBits(1)}, {"0x1p-1075", api.ErrInexact}, {"0x1p+1024", api.ErrInexact}, {"0x1p+123456", api.ErrForm},
		{"0x1." + string(slices.Repeat([]byte("0"), 57)) + "p+0", isDouble(1)}, {"0x1." + string(slices.Repeat([]byte("0"), 58)) + "p+0", api.ErrLong}, {string(slices.Repeat([]byte("1"), 64)), api.ErrRange}, {string(slices.Repeat([]byte("1"), 65)), api.ErrLong},
		{0, api.ErrType}, {1, api.ErrType}, {1 << 50, api.ErrType}, {1.0, api.ErrType}, {math.NaN(), api.ErrType}, {nil, api.ErrType}, {true, api.ErrType},
	})
}

// What is told of a number is read back as it (W6): as text, and as num of that.
func TestTextAndNumThereAndBack(t *testing.T) {
	d, all := numberDesk(t)
	for _, w := range all {
		v, _ := valueIn(held(d.h), w)
		text, e := doBuiltin(t, d.h, "text", args(w), d.keep...)
		if e != api.OK {
			t.Fatalf("text of %v is %d", v, e)
		}
		back := wantBuiltin(t, d.h, "num", args(text), v, d.keep...)
		wantBuiltin(t, d.h, "kind", args(back), isText(called(v.Kind)))
		again, _ := doTold(t, d.h, back)
		wantIs(t, d.h, "text there and back", text, api.OK, isText(again))
	}
}
