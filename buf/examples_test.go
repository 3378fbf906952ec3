package buf_test

import (
	"testing"

	"casket/api"
	"casket/heap"
)

// The chapter's table 'Examples', row by row.

// examples has b, a buffer of eight bytes, and v, a view of it.
func examples(t *testing.T) (h *heap.Heap, b, v uint64) {
	t.Helper()
	h = newHeap(t, 20)
	b = wantNew(t, h, api.U8, 8)
	v = wantView(t, h, b, api.I16, 2, 3, b, 2)
	return h, b, v
}

func TestExampleElements(t *testing.T) {
	h, b, v := examples(t)
	wantStore(t, h, b, 2, smallWord(255))
	wantStore(t, h, b, 3, smallWord(255))
	wantLoad(t, h, v, 0, smallWord(-1))
	wantLen(t, h, v, 3)
}

func TestExampleViews(t *testing.T) {
	h, b, v := examples(t)
	wantNoView(t, h, b, api.I16, 1, 1, api.ErrAlign, b, v)
	wantNoView(t, h, b, api.I16, 4, 3, api.ErrIndex, b, v)
	wantView(t, h, v, api.F32, 2, 1, b, 4, b, v)
	wantView(t, h, v, api.U8, 1, 1, b, 3, b, v)
}

func TestExampleRefusals(t *testing.T) {
	h, b, _ := examples(t)
	wantNoStore(t, h, b, 0, smallWord(256), api.ErrRange)
	wantNoStore(t, h, b, 0, doubleWord(1), api.ErrType)
	wantNoStore(t, h, b, 8, smallWord(0), api.ErrIndex)
	wantNoNew(t, h, api.F64, -1, api.ErrRange)
	wantNoNew(t, h, api.F64, 1<<62, api.ErrMemory)
}
