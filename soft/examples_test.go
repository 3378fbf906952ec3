package soft_test

import (
	"testing"

	"casket/api"
	"casket/soft"
)

// The chapter's table 'Examples', row by row.

func TestExampleSum(t *testing.T) {
	wantPattern(t, "Add(1, 2)", soft.Add(0x3ff0000000000000, 0x4000000000000000), 0x4008000000000000)
}

func TestExampleNaNs(t *testing.T) {
	wantPattern(t, "Add(infinity, -infinity)", soft.Add(0x7ff0000000000000, 0xfff0000000000000), 0x7ff8000000000000)
	wantPattern(t, "Div(0, -0)", soft.Div(0, 0x8000000000000000), 0x7ff8000000000000)
}

func TestExampleSigns(t *testing.T) {
	wantPattern(t, "Div(1, -0)", soft.Div(0x3ff0000000000000, 0x8000000000000000), 0xfff0000000000000)
	wantPattern(t, "Neg(0)", soft.Neg(0), 0x8000000000000000)
}

func TestExampleFloor(t *testing.T) {
	wantPattern(t, "Floor(-0.5)", soft.Floor(0xbfe0000000000000), 0xbff0000000000000)
	wantPattern(t, "Floor(0.5)", soft.Floor(0x3fe0000000000000), 0)
	wantPattern(t, "Floor(-0)", soft.Floor(0x8000000000000000), 0x8000000000000000)
}

func TestExampleFromInt(t *testing.T) {
	wantPattern(t, "FromInt(2^53 + 1)", soft.FromInt(1<<53+1), 0x4340000000000000)
	wantPattern(t, "FromInt(2^53 + 3)", soft.FromInt(1<<53+3), 0x4340000000000002)
}

func TestExampleTrunc(t *testing.T) {
	wantTrunc(t, 0x43e0000000000000, 0, api.ErrRange)
	wantTrunc(t, 0xc3e0000000000000, -1<<63, api.OK)
	wantTrunc(t, 0xbfe8000000000000, 0, api.OK)
}

func TestExampleNarrowAndWide(t *testing.T) {
	wantNarrow(t, 0x3ff0000000000001, 0x3f800000)
	wantNarrow(t, 0x7ff8000000000001, 0x7fc00000)
	wantPattern(t, "Wide(7f800001)", soft.Wide(0x7f800001), 0x7ff8000000000000)
}

func TestExampleOrder(t *testing.T) {
	if soft.Less(0x8000000000000000, 0) {
		t.Error("Less(-0, 0)")
	}
	if !soft.Equal(0x8000000000000000, 0) {
		t.Error("not Equal(-0, 0)")
	}
	if soft.Equal(0x7ff8000000000000, 0x7ff8000000000000) {
		t.Error("Equal(NaN, NaN)")
	}
}
