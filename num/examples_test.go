package num_test

import (
	"testing"

	"casket/api"
)

// The chapter's table 'Examples', row by row.

func TestExampleOverflow(t *testing.T) {
	add.wantError(t, i(1<<63-1), i(1), api.ErrOverflow)
	mul.wantError(t, i(1<<32), i(1<<31), api.ErrOverflow)
	sub.wantError(t, i(-1<<63), i(1), api.ErrOverflow)
}

func TestExampleDoubles(t *testing.T) {
	add.want(t, i(1), d(0.5), d(1.5))
	div.want(t, i(1), i(4), d(0.25))
	div.want(t, i(1), i(0), d(infinity))
}

func TestExampleRoundedDown(t *testing.T) {
	floorDiv.want(t, i(-7), i(2), i(-4))
	mod.want(t, i(-7), i(2), i(1))
	mod.want(t, i(7), i(-2), i(-1))
	floorDiv.wantError(t, i(1), i(0), api.ErrDivZero)
}

func TestExampleLeast(t *testing.T) {
	floorDiv.wantError(t, i(-1<<63), i(-1), api.ErrOverflow)
	mod.want(t, i(-1<<63), i(-1), i(0))
	wantNeg(t, i(-1<<63), api.Num{}, api.ErrOverflow)
}

func TestExampleRoundedDownDoubles(t *testing.T) {
	floorDiv.want(t, d(-7), i(2), d(-4))
	mod.want(t, d(-7), i(2), d(1))
	mod.want(t, d(1), i(0), nan())
}

func TestExampleOrder(t *testing.T) {
	wantOrder(t, d(0x1p53), i(1<<53+1), true, false)
	wantOrder(t, i(1<<53+1), d(0x1p53), false, false)
	wantOrder(t, i(1<<63-1), d(0x1p63), true, false)
}

func TestExampleShifts(t *testing.T) {
	shl.want(t, 1, 62, 1<<62, api.OK)
	shl.want(t, 1, 63, 0, api.ErrOverflow)
	shl.want(t, -1, 63, -1<<63, api.OK)
	shl.want(t, 1, 64, 0, api.ErrShift)
	shr.want(t, -1, 63, -1, api.OK)
	shr.want(t, 5, -1, 0, api.ErrShift)
}
