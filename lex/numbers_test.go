package lex_test

import (
	"strings"
	"testing"

	"casket/api"
	"casket/lex"
	"casket/numtext"
)

// Promise 11.1 (W6): doubles and whole numbers.

func TestWholes(t *testing.T) {
	wantTable(t, [][2]string{
		{"0", "Int 0 0, End 1"}, {"1", "Int 1 0, End 1"}, {"10", "Int 10 0, End 2"}, {"1234567890", "Int 1234567890 0, End 10"}, {"9223372036854775807", "Int 9223372036854775807 0, End 19"},
		{"9223372036854775808", "ErrNumber 0"}, {"10000000000000000000", "ErrNumber 0"}, {"18446744073709551616", "ErrNumber 0"}, {"18446744073709551617", "ErrNumber 0"}, {"00", "ErrNumber 0"}, {"007", "ErrNumber 0"}, {"01", "ErrNumber 0"}, {"000000", "ErrNumber 0"},
		{"-1", "Mark - 0, Int 1 1, End 2"}, {"-0", "Mark - 0, Int 0 1, End 2"}, {"-9223372036854775808", "Mark - 0, ErrNumber 1"}, {"+5", "Mark + 0, Int 5 1, End 2"}, {"--1", "Mark - 0, Mark - 1, Int 1 2, End 3"},
		{"1 2", "Int 1 0, Int 2 2, End 3"}, {"0 0", "Int 0 0, Int 0 2, End 3"}, {"12ab", "Int 12 0, Name ab 2, End 4"}, {"1_000", "Int 1 0, Name _000 1, End 5"}, {"1e5", "Int 1 0, Name e5 1, End 3"}, {"1if", "Int 1 0, Word if 1, End 3"}, {"0b1", "Int 0 0, Name b1 1, End 3"},
		{"1.", "Int 1 0, ErrByte 1"}, {"1.5", "Int 1 0, ErrByte 1"}, {"1..", "Int 1 0, Mark .. 1, End 3"}, {"1..2", "Int 1 0, Mark .. 1, Int 2 3, End 4"}, {"1...2", "Int 1 0, Mark .. 1, ErrByte 3"}, {"1....2", "Int 1 0, Mark .. 1, Mark .. 3, Int 2 5, End 6"}, {".5", "ErrByte 0"},
		{"1x1p+0", "Int 1 0, Name x1p 1, Mark + 4, Int 0 5, End 6"}, {"10x1p+0", "Int 10 0, Name x1p 2, Mark + 5, Int 0 6, End 7"}, {"00x1p+0", "ErrNumber 0"}, {"1p+0", "Int 1 0, Name p 1, Mark + 2, Int 0 3, End 4"}, {"0X1p+0", "Int 0 0, ErrByte 1"},
		{`1"a"`, `Int 1 0, Text "a" 1, End 4`}, {"1#2", "Int 1 0, End 3"}, {"a 08 !", "Name a 0, ErrNumber 2"},
	})
	for _, n := range []int{20, 63, 64, 65, 66, 1000} {
		wantTold(t, " "+strings.Repeat("1", n), "ErrNumber 1")
		wantTold(t, strings.Repeat("0", n), "ErrNumber 0")
	}
}

func TestDoubles(t *testing.T) {
	wantTable(t, [][2]string{
		{"0x1p+0", "Float 3ff0000000000000 0, End 6"}, {"0x0p+0", "Float 0 0, End 6"}, {"0x0.0p-7", "Float 0 0, End 8"}, {"0x1.8p+1", "Float 4008000000000000 0, End 8"}, {"0x18p-4", "Float 3ff8000000000000 0, End 7"}, {"0x00001p+00000", "Float 3ff0000000000000 0, End 14"},
		{"0xabcdefp+0", "Float 416579bde0000000 0, End 11"}, {"0x0.fp+4", "Float 402e000000000000 0, End 8"}, {"0x1p-1074", "Float 1 0, End 9"}, {"0x1.fffffffffffffp+1023", "Float 7fefffffffffffff 0, End 23"}, {"0x1p-1022", "Float 10000000000000 0, End 9"},
		{"0x1p+1024", "ErrNumber 0"}, {"0x1p-1075", "ErrNumber 0"}, {"0x1.00000000000001p+0", "ErrNumber 0"}, {"0x20000000000001p+0", "ErrNumber 0"}, {"0x20000000000002p+0", "Float 4340000000000001 0, End 19"}, {"0x1p+123456", "ErrNumber 0"}, {"0x0p+12345", "Float 0 0, End 10"}, {"0x0p+123456", "ErrNumber 0"},
		{"0x", "ErrNumber 0"}, {"0x ", "ErrNumber 0"}, {"0x1", "ErrNumber 0"}, {"0x1.", "ErrNumber 0"}, {"0x1.8", "ErrNumber 0"}, {"0x.8p+0", "ErrNumber 0"}, {"0x1.p+0", "ErrNumber 0"}, {"0x.p+0", "ErrNumber 0"}, {"0xp+0", "ErrNumber 0"},
		{"0x1p", "ErrNumber 0"}, {"0x1p+", "ErrNumber 0"}, {"0x1p-", "ErrNumber 0"}, {"0x1p1", "ErrNumber 0"}, {"0x1p 1", "ErrNumber 0"}, {"0x1p++1", "ErrNumber 0"}, {"0x1pp+1", "ErrNumber 0"}, {"0x1+1", "ErrNumber 0"}, {"0x1-1", "ErrNumber 0"},
		{"0x1..2", "ErrNumber 0"}, {"0x1.8.8p+0", "ErrNumber 0"}, {"0x1..2p+0", "ErrNumber 0"}, {"0x1A", "ErrNumber 0"}, {"0xAp+0", "ErrNumber 0"}, {"0xg", "ErrNumber 0"}, {"0x_1p+0", "ErrNumber 0"}, {"0xx1p+0", "ErrNumber 0"},
		{"0x1p+0.5", "Float 3ff0000000000000 0, ErrByte 6"}, {"0x1p+0..2", "Float 3ff0000000000000 0, Mark .. 6, Int 2 8, End 9"}, {"0x1p+0a", "Float 3ff0000000000000 0, Name a 6, End 7"}, {"0x1p+0p+0", "Float 3ff0000000000000 0, Name p 6, Mark + 7, Int 0 8, End 9"}, {"0x1p+0x1p+0", "Float 3ff0000000000000 0, Name x1p 6, Mark + 9, Int 0 10, End 11"},
		{"0x1p+0+1", "Float 3ff0000000000000 0, Mark + 6, Int 1 7, End 8"}, {"0x1p+0-0x1p+0", "Float 3ff0000000000000 0, Mark - 6, Float 3ff0000000000000 7, End 13"}, {"0x1p+0_", "Float 3ff0000000000000 0, Name _ 6, End 7"}, {"0x1p+0A", "Float 3ff0000000000000 0, ErrByte 6"}, {`0x1p+0""`, `Float 3ff0000000000000 0, Text "" 6, End 8`},
		{"-0x1p+0", "Mark - 0, Float 3ff0000000000000 1, End 7"}, {"-0x0p+0", "Mark - 0, Float 0 1, End 7"}, {"x0x1p+0", "Name x0x1p 0, Mark + 5, Int 0 6, End 7"}, {"a 0x1 !", "Name a 0, ErrNumber 2"}, {"0 x1p+0", "Int 0 0, Name x1p 2, Mark + 5, Int 0 6, End 7"},
	})
}

// A double may have 64 bytes: chapter 4 refuses the one with a byte more.
func TestLongDoubles(t *testing.T) {
	for _, n := range []int{62, 63, 64, 65, 66, 1000} {
		for _, s := range []string{"0x1." + strings.Repeat("0", n-7) + "p+0", "0x" + strings.Repeat("0", n-6) + "1p+0", "0x" + strings.Repeat("0", n-5) + "p-9"} {
			if len(s) != n {
				t.Fatalf("%q has %d bytes", s, len(s))
			}
			_, e := numtext.ParseFloat(s)
			if (e == api.OK) != (n <= 64) {
				t.Fatalf("ParseFloat(%q): %d", s, e)
			}
			wantModel(t, s)
			wantModel(t, "x="+s+";")
		}
	}
}

// Every text of letters that doubles and whole numbers have, and of some that none has.
func TestEveryNumber(t *testing.T) {
	check := func(s string) {
		wantModel(t, "0"+s)
		wantModel(t, "0x1"+s)
		wantModel(t, "0x1p"+s)
	}
	everyText("01x.p+-", 5, check)
	everyText("0x9afgp. +", 4, check)
}

// What chapter 4 takes is a token with its answer, and what it refuses is none.
func TestAsChapterFour(t *testing.T) {
	for _, s := range []string{"0x1p+0", "0xf.8p-3", "0x1p+1023", "0x1p+1024", "0x1p-1074", "0x0.8p-1074", "0x1.fffffffffffff8p+0", "0x1.ffffffffffffffp+0", "0x3p-1075", "0x2p-1075", "0x1p+99999", "0x0p+99999", "0x1p-99999", "0x1p+000001", "0x0p+0", "0x.1p+0", "0x1.p+0", "0x", "0xp"} {
		bits, e := numtext.ParseFloat(s)
		wantNumber(t, s, api.Token{Kind: api.TokFloat, At: 1, Bits: bits}, e)
	}
	for _, s := range []string{"0", "00", "7", "07", "10", "9223372036854775806", "9223372036854775807", "9223372036854775808", "9223372036854775810", strings.Repeat("9", 64), strings.Repeat("9", 65)} {
		i, e := numtext.ParseInt(s)
		wantNumber(t, s, api.Token{Kind: api.TokInt, At: 1, Int: i}, e)
	}
}

func wantNumber(t *testing.T, s string, want api.Token, e api.Errno) {
	t.Helper()
	list, f := lex.All(" " + s + "\n")
	if e != api.OK {
		if len(list) != 0 || f != (api.Fault{Code: api.ErrNumber, At: 1}) {
			t.Errorf("All of %q, which is refused with %d: %v, %v", s, e, list, f)
		}
		return
	}
	if len(list) != 2 || list[0] != want || f != (api.Fault{}) {
		t.Errorf("All of %q: %v, %v; want %v", s, list, f, want)
	}
}

// What chapter 4 prints of numbers that are not below 0, stands for them in a source.
func TestPrintedNumbers(t *testing.T) {
	var c chance = 11
	for range 20000 {
		i := int64(c.below(1<<31))<<32 ^ int64(c.below(1<<31))<<1 ^ int64(c.below(2))
		i >>= c.below(63)
		wantNumber(t, numtext.Int(i), api.Token{Kind: api.TokInt, At: 1, Int: i}, api.OK)
		bits := uint64(c.below(0x7ff))<<52 | uint64(c.below(1<<30))<<22>>c.below(52) | uint64(c.below(1<<22))>>c.below(22)
		bits &= 1<<63 - 1
		wantNumber(t, numtext.Float(bits), api.Token{Kind: api.TokFloat, At: 1, Bits: bits}, api.OK)
	}
	for _, bits := range []uint64{infinity, api.Canon, 0, 1, infinity - 1} {
		wantNumber(t, numtext.Float(bits), api.Token{Kind: api.TokFloat, At: 1, Bits: bits}, api.OK)
	}
}
