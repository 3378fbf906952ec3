package numtext_test

import (
	"testing"

	"casket/api"
	"casket/num"
	"casket/numtext"
	"casket/soft"
)

// Promise 4.5.

func TestWholesThereAndBack(t *testing.T) {
	list := wholeEdges()
	for _, bits := range mixed(5000) {
		list = append(list, int64(bits), int64(bits)>>(bits%64))
	}
	for _, i := range list {
		wantParseInt(t, numtext.Int(i), i, api.OK)
		wantParse(t, numtext.Text(api.Num{Whole: true, Int: i}), api.Num{Whole: true, Int: i}, api.OK)
	}
}

// Whatever text ParseInt takes is the one that Int prints.
func TestWholeTextsBackAndThere(t *testing.T) {
	everyText("-+0129", 6, func(s string) {
		if i, e := numtext.ParseInt(s); e == api.OK && numtext.Int(i) != s {
			t.Errorf("%q was read as %d, which is printed %q", s, i, numtext.Int(i))
		}
	})
}

func TestDoublesThereAndBack(t *testing.T) {
	for _, bits := range doubles() {
		wantParseFloat(t, numtext.Float(bits), bits, api.OK)
		wantParse(t, numtext.Text(api.Num{Bits: bits}), api.Num{Bits: bits}, api.OK)
	}
	for _, bits := range nans() {
		wantParseFloat(t, numtext.Float(bits), api.Canon, api.OK)
		wantParse(t, numtext.Text(api.Num{Bits: bits}), api.Num{Bits: api.Canon}, api.OK)
	}
}

// What was read is printed as a text that is read as the same.
func TestReadPrintedAndReadAgain(t *testing.T) {
	taken := 0
	for _, seed := range mixed(20000) {
		s := mixedText(seed)
		bits, e := numtext.ParseFloat(s)
		if e != api.OK {
			continue
		}
		taken++
		wantParseFloat(t, numtext.Float(bits), bits, api.OK)
	}
	if taken < 2000 {
		t.Errorf("only %d texts were taken", taken)
	}
}

// All texts that say one number are printed alike.
func TestOneTextOfMany(t *testing.T) {
	for want, texts := range map[string][]string{
		"0x1.8p+0":  {"0x1.8p+0", "0x3p-1", "0x18p-4", "0xcp-3", "0x0.18p+4", "0x001.800p-00", "0x6p-2", "0x180p-8"},
		"-0x1p-1":   {"-0x1p-1", "-0x0.8p+0", "-0x8p-4", "-0x0.1p+3", "-0x10p-5"},
		"0x0p+0":    {"0x0p+0", "0x0p-0", "0x0.0p+7", "0x000p-99999", "0x0.000p+12345"},
		"-0x0p+0":   {"-0x0p+0", "-0x0p-0", "-0x0.0p+7"},
		"0x1p-1074": {"0x1p-1074", "0x2p-1075", "0x0.8p-1073", "0x10p-1078"},
		"inf":       {"inf"}, "-inf": {"-inf"}, "nan": {"nan"},
	} {
		for _, s := range texts {
			bits, e := numtext.ParseFloat(s)
			if got := numtext.Float(bits); got != want || e != api.OK {
				t.Errorf("%q was read as %016x, %d, which is printed %q", s, bits, e, got)
			}
		}
	}
}

// A whole number's text says what its double's text says, where the double is exact.
func TestWholeBesideDouble(t *testing.T) {
	for _, i := range wholeEdges() {
		whole, e := numtext.Parse(numtext.Int(i))
		double, f := numtext.Parse(numtext.Float(soft.FromInt(i)))
		if e != api.OK || f != api.OK {
			t.Fatalf("%d: %d, %d", i, e, f)
		}
		back, fits := soft.Trunc(soft.FromInt(i))
		exact := fits == api.OK && back == i
		if num.Equal(whole, double) != exact {
			t.Errorf("%d beside its double: equal is %v", i, !exact)
		}
	}
}
