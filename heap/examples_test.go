package heap_test

import (
	"testing"

	"casket/api"
	"casket/heap"
)

// The chapter's table 'Examples', row by row: a heap of 6 units.

func TestExampleNeed(t *testing.T) {
	for _, x := range []struct {
		c    api.Cell
		want int
	}{{number(5), 2}, {text("123456789"), 3}, {buffer(api.U8), 1}, {row(small(1), small(2), small(3)), 4}} {
		if got := heap.Need(x.c); got != x.want {
			t.Errorf("Need(%s) is %d; want %d", tell(x.c), got, x.want)
		}
	}
}

func TestExampleMemory(t *testing.T) {
	h := newHeap(t, 6)
	a := wantPut(t, h, number(5))
	wantReach(t, h, 2, a)
	b := wantPut(t, h, row(a, small(7)), a)
	wantReach(t, h, 5, b)
	wantNoPut(t, h, api.ErrMemory, number(6), b)
	c := wantPut(t, h, number(6))
	wantGet(t, h, c, number(6))
}

func TestExampleWrong(t *testing.T) {
	h := newHeap(t, 6)
	wantNoGet(t, h, 0xfffb000000000007)
	wantNoPut(t, h, api.ErrArg, row(0x7ff8000000000001))
	a := wantPut(t, h, number(5))
	wantPut(t, h, row(a, small(7)), a)
	wantNoGet(t, h, 0xfffb000000000007)
	wantNoPut(t, h, api.ErrArg, row(0x7ff8000000000001), a)
}
