package heap_test

import (
	"strings"
	"testing"

	"casket/api"
	"casket/heap"
)

func wantNeed(t *testing.T, c api.Cell, want int) {
	t.Helper()
	if got := heap.Need(c); got != want {
		t.Errorf("Need(%s) is %d; want %d", tell(c), got, want)
	}
}

// Promise 6.2: one, and what a cell has.
func TestNeedOfBytes(t *testing.T) {
	for n, want := range map[int]int{
		0: 1, 1: 2, 2: 2, 4: 2, 7: 2, 8: 2, 9: 3, 15: 3, 16: 3, 17: 4, 24: 4, 1000: 126, 1001: 127, 1<<23 - 8: 1 << 20, 1 << 23: 1<<20 + 1, 1<<23 + 1: 1<<20 + 2,
	} {
		wantNeed(t, text(strings.Repeat("x", n)), want)
		for _, kind := range kinds {
			wantNeed(t, buffer(kind, blank(n)...), want)
		}
	}
}

func TestNeedOfNumbers(t *testing.T) {
	for _, i := range []int64{0, 1, -1, 1 << 47, -1 << 63, 1<<63 - 1} {
		wantNeed(t, number(i), 2)
	}
}

func TestNeedOfRows(t *testing.T) {
	for _, n := range []int{0, 1, 2, 7, 8, 9, 1000, 1<<20 - 1, 1 << 20, 1<<20 + 1} {
		wantNeed(t, row(make([]uint64, n)...), 1+n)
	}
	wantNeed(t, row(stray, handle(99)), 3)
}

func TestNeedOfViews(t *testing.T) {
	for _, kind := range kinds {
		wantNeed(t, view(kind, 0, 0, 0), 1)
		wantNeed(t, view(kind, handle(3), 8, 1000), 1)
		wantNeed(t, view(kind, stray, least, most), 1)
		wantNeed(t, api.Cell{Kind: kind, View: true, Bytes: blank(50), Words: make([]uint64, 3), Text: "0123456789", Int: 7}, 1)
	}
}

// Cells that are not right by Kind and View take 1, whatever they have.
func TestNeedOfWhatIsNoCell(t *testing.T) {
	full := api.Cell{Int: 9, Text: strings.Repeat("x", 99), Bytes: blank(99), Words: make([]uint64, 99), Base: handle(0), From: 8, Len: 8}
	for _, kind := range []int{least, -1, api.Nil, api.Bool, api.Float, api.Row + 1, 99, 32 + api.U8, 256 + api.U8, most} {
		for _, isView := range []bool{false, true} {
			c := full
			c.Kind, c.View = kind, isView
			wantNeed(t, c, 1)
			wantNeed(t, api.Cell{Kind: kind, View: isView}, 1)
		}
	}
	for _, kind := range []int{api.Int, api.Text, api.Row} {
		c := full
		c.Kind, c.View = kind, true
		wantNeed(t, c, 1)
		wantNeed(t, api.Cell{Kind: kind, View: true}, 1)
	}
}

// What a cell has beside what its kind names takes nothing.
func TestNeedOfWhatIsNotNamed(t *testing.T) {
	full := api.Cell{Int: 9, Text: strings.Repeat("x", 20), Bytes: blank(40), Words: make([]uint64, 90), Base: handle(0), From: 8, Len: 8}
	for kind, want := range map[int]int{api.Int: 2, api.Text: 4, api.F64: 6, api.F32: 6, api.I16: 6, api.U8: 6, api.Row: 91} {
		c := full
		c.Kind = kind
		wantNeed(t, c, want)
	}
	wantNeed(t, buffer(api.F64, blank(3)...), 2)
	wantNeed(t, buffer(api.I16, blank(9)...), 3)
}
