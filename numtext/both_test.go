package numtext_test

import (
	"strings"
	"testing"

	"casket/api"
	"casket/numtext"
)

// Promise 4.4.

func TestTextOfWholes(t *testing.T) {
	for _, i := range wholeEdges() {
		for _, bits := range []uint64{0, one, api.Canon} { // says nothing of a whole number
			if got := numtext.Text(api.Num{Whole: true, Int: i, Bits: bits}); got != numtext.Int(i) {
				t.Errorf("Text of %d is %q", i, got)
			}
		}
	}
}

func TestTextOfDoubles(t *testing.T) {
	for _, bits := range append(doubleEdges(), nans()...) {
		for _, i := range []int64{0, 7, least} { // says nothing of a double
			if got := numtext.Text(api.Num{Int: i, Bits: bits}); got != numtext.Float(bits) {
				t.Errorf("Text of %016x is %q", bits, got)
			}
		}
	}
}

func TestTextByHand(t *testing.T) {
	for n, want := range map[api.Num]string{
		{}: "0x0p+0", {Whole: true}: "0", {Whole: true, Int: -5}: "-5", {Bits: 0xc014000000000000}: "-0x1.4p+2", {Bits: api.Canon}: "nan", {Bits: sign | infinity}: "-inf",
	} {
		if got := numtext.Text(n); got != want {
			t.Errorf("Text(%v) is %q; want %q", n, got, want)
		}
	}
}

func TestParseByHand(t *testing.T) {
	for s, want := range map[string]api.Num{
		"0": {Whole: true}, "5": {Whole: true, Int: 5}, "-5": {Whole: true, Int: -5}, "10": {Whole: true, Int: 10},
		"-9223372036854775808": {Whole: true, Int: least}, "9223372036854775807": {Whole: true, Int: most},
		"0x1p+0": {Bits: one}, "-0x1p+0": {Bits: sign | one}, "0x0p+0": {}, "-0x0p+0": {Bits: sign}, "0x5p+0": {Bits: 0x4014000000000000},
		"nan": {Bits: api.Canon}, "inf": {Bits: infinity}, "-inf": {Bits: sign | infinity},
	} {
		wantParse(t, s, want, api.OK)
	}
}

func TestParseRefused(t *testing.T) {
	refused := map[api.Errno][]string{
		api.ErrForm: {
			"", "-", "+", "-0", "07", "+1", "--1", " 1", "1 ", "x", "0X1p+0", "0x", "-0x", "0x1", "0x1p0", "0x.8p+0", "0x8.p+0", "--0x1p+0", "+0x1p+0", " 0x1p+0",
			"-nan", "+inf", "NaN", "nan ", "infinity", "1.5", "1e3", "1p+0", "00x1p+0", "\xff", "0x\xff", "0x1p+123456", "0x9223372036854775808", strings.Repeat("x", 64), noughts(64),
		},
		api.ErrRange:   {"9223372036854775808", "-9223372036854775809", strings.Repeat("9", 64), "-" + strings.Repeat("1", 63)},
		api.ErrInexact: {"0x1p+1024", "-0x1p+1024", "0x1p-1075", "0x1.00000000000001p+0"},
		api.ErrLong:    {strings.Repeat("1", 65), noughts(65), "0x1." + noughts(58) + "p+0", "-0x1." + noughts(57) + "p+0", strings.Repeat("x", 65), "nan" + strings.Repeat(" ", 62), "-" + strings.Repeat("9", 64)},
	}
	for e, texts := range refused {
		for _, s := range texts {
			wantParse(t, s, api.Num{}, e)
		}
	}
}

// Parse asks the one call or the other, by what the text begins with.
func TestParseChooses(t *testing.T) {
	check := func(s string) {
		double := strings.HasPrefix(s, "0x") || strings.HasPrefix(s, "-0x") || s == "nan" || s == "inf" || s == "-inf"
		if double {
			bits, e := numtext.ParseFloat(s)
			wantParse(t, s, api.Num{Bits: bits}, e)
			return
		}
		i, e := numtext.ParseInt(s)
		wantParse(t, s, api.Num{Whole: e == api.OK, Int: i}, e)
	}
	everyText("-0x1p+", 6, check)
	everyText("-nai", 5, check)
	for _, s := range []string{"nan", "inf", "-inf", "0x1p+0", "-0x1p+0", "0x10p-4", "123", "-123"} {
		for at := range len(s) + 1 {
			check(s[:at])
			check(s[at:])
			check(s[:at] + "-" + s[at:])
			check(s[:at] + "0" + s[at:])
		}
	}
}
