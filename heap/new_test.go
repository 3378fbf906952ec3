package heap_test

import (
	"strings"
	"testing"

	"casket/api"
	"casket/heap"
)

// Promise 6.3: units from 0 to MaxUnits.
func TestNew(t *testing.T) {
	for _, units := range []int{0, 1, 2, 1000, api.MaxUnits - 1, api.MaxUnits} {
		m := newModel(t, units)
		m.look()
		wantReach(t, m.h, 0, handle(0), handle(1))
		m.collect(handle(0))
	}
}

func TestNewOfWrongUnits(t *testing.T) {
	for _, units := range []int{least, least + 1, -1 << 31, -2, -1, api.MaxUnits + 1, 1 << 31, 1 << 32, most} {
		if h, e := heap.New(units); h != nil || e != api.ErrArg {
			t.Errorf("New(%d) is %v, %d; want ErrArg", units, h, e)
		}
	}
}

// A heap has room for just its units, of each kind of cell.
func TestRoomForEach(t *testing.T) {
	for _, c := range []api.Cell{
		number(1), text(""), text("1234567"), text("12345678"), text("123456789"), row(), row(0), row(0, 1, 2),
		buffer(api.F64), buffer(api.F64, blank(8)...), buffer(api.F32, blank(12)...), buffer(api.I16, blank(2)...), buffer(api.U8, 1, 2, 3, 4, 5, 6, 7, 8, 9),
	} {
		need := needOf(c)
		for units := range need + 3 {
			m := newModel(t, units)
			if _, e := m.put(c); e == api.OK != (units >= need) {
				t.Errorf("Put(%s) into %d units: %d", tell(c), units, e)
			}
		}
	}
}

// Room is never less, however full the heap.
func TestRoomStays(t *testing.T) {
	h := newHeap(t, 4)
	for range 3 {
		a := wantPut(t, h, number(1))
		b := wantPut(t, h, number(2), a)
		wantNoPut(t, h, api.ErrMemory, number(3), a, b)
		if h.Room() != 4 {
			t.Errorf("Room is %d", h.Room())
		}
	}
}

// A heap without bounds takes cells that need more than the units of any other one, alone and together; and nothing is swept for them.
func TestBoundless(t *testing.T) {
	h := heap.Boundless()
	greatest := text(strings.Repeat("x", api.MaxBytes))
	if heap.Need(greatest) <= api.MaxUnits {
		t.Fatal("the greatest text is not greater than a heap")
	}
	first := wantPut(t, h, greatest)
	wantPut(t, h, greatest)
	wantPut(t, h, number(1))
	wantGet(t, h, first, greatest)
	n := 0
	for range h.Cells() {
		n++
	}
	if n != 3 || h.Room() < 3*api.MaxUnits {
		t.Errorf("%d cells, room for %d units", n, h.Room())
	}
	wantNoPut(t, h, api.ErrArg, text(greatest.Text+"x"))
}
