package image_test

import (
	"slices"
	"strings"
	"testing"

	"casket/api"
)

// Promise 20.5: what is told at 0: cells that are not right, that stand elsewhere, that are not reached; and too few units.

// global is a machine of one global, which leads to the first cell.
func global(units uint64, cells ...[]byte) []byte {
	return parts{src: "let g;", units: units, cells: cells, globals: [][]byte{to(0)}}.bytes()
}

func bytesOf(n int) []byte { return make([]byte, n) }

func TestViews(t *testing.T) {
	for kind, width := range map[int]uint64{api.F64: 8, api.F32: 4, api.I16: 2, api.U8: 1} {
		for size := range uint64(25) {
			buffer := bufCell(api.U8, bytesOf(int(size))...)
			for from := range size + 10 {
				for n := range size/width + 3 {
					b := global(99, viewCell(kind, 1, from, n), buffer)
					if from%width == 0 && from+n*width <= size {
						wantTaken(t, b)
					} else {
						wantWrong(t, b, api.ErrCell, 0)
					}
				}
			}
		}
		buffer := bufCell(api.F64, bytesOf(64)...)
		for _, great := range []uint64{65, 1 << 31, 1 << 32, 1 << 60, 1<<60 + 8, 1 << 61, 1 << 62, 1<<63 - 8, 1<<63 - 1} {
			wantWrong(t, global(99, viewCell(kind, 1, 0, great), buffer), api.ErrCell, 0)
			wantWrong(t, global(99, viewCell(kind, 1, 8, great), buffer), api.ErrCell, 0)
			wantWrong(t, global(99, viewCell(kind, 1, great, 0), buffer), api.ErrCell, 0)
			wantWrong(t, global(99, viewCell(kind, 1, great, great), buffer), api.ErrCell, 0)
		}
	}
}

// What a view may lead to: a buffer of whatever kind, and nothing else.
func TestViewsOf(t *testing.T) {
	for kind := api.F64; kind <= api.U8; kind++ {
		for base := api.F64; base <= api.U8; base++ {
			wantTaken(t, global(99, viewCell(kind, 1, 8, 1), bufCell(base, bytesOf(16)...)))
			wantWrong(t, global(99, viewCell(kind, 1, 0, 0), viewCell(base, 2, 0, 2), bufCell(api.U8, bytesOf(16)...)), api.ErrCell, 0)
		}
		wantTaken(t, global(99, viewCell(kind, 1, 0, 0), bufCell(kind)))
		wantWrong(t, global(99, viewCell(kind, 0, 0, 0)), api.ErrCell, 0)
		wantWrong(t, global(99, viewCell(kind, 1, 0, 0), viewCell(kind, 0, 0, 0)), api.ErrCell, 0)
		for _, other := range [][]byte{intCell(5), textCell(filler(16)), rowCell(), rowCell(nilWord(), nilWord())} {
			wantWrong(t, global(99, viewCell(kind, 1, 0, 0), other), api.ErrCell, 0)
		}
	}
	// Views of one buffer, which is come to ahead of one of them.
	wantTaken(t, global(99, rowCell(to(1), to(2), to(3), to(2)), bufCell(api.U8, bytesOf(8)...), viewCell(api.F64, 1, 0, 1), viewCell(api.I16, 1, 6, 1)))
	wantTaken(t, global(99, rowCell(to(1), to(3), to(2)), viewCell(api.F64, 2, 0, 1), bufCell(api.U8, bytesOf(8)...), viewCell(api.I16, 2, 6, 1)))
}

// A buffer's bytes are a whole number of elements.
func TestElements(t *testing.T) {
	for kind, width := range map[int]int{api.F64: 8, api.F32: 4, api.I16: 2, api.U8: 1} {
		for n := range 34 {
			b := global(99, bufCell(kind, bytesOf(n)...))
			if n%width == 0 {
				wantTaken(t, b)
			} else {
				wantWrong(t, b, api.ErrCell, 0)
			}
		}
	}
}

// Each bound of lengths. What is as long as may be needs more units than there are; what is longer is not right.
func TestLengths(t *testing.T) {
	for kind := api.Text; kind <= api.U8; kind++ {
		wantTaken(t, global(api.MaxUnits, bufCell(kind, bytesOf(api.MaxBytes-8)...)))
		wantWrong(t, global(api.MaxUnits, bufCell(kind, bytesOf(api.MaxBytes)...)), api.ErrMemory, 0)
		wantWrong(t, global(api.MaxUnits, bufCell(kind, bytesOf(api.MaxBytes+8)...)), api.ErrCell, 0)
	}
	wantWrong(t, global(9, textCell(strings.Repeat("x", api.MaxBytes))), api.ErrMemory, 0)
	wantWrong(t, global(9, textCell(strings.Repeat("x", api.MaxBytes+1))), api.ErrCell, 0)
	wantWrong(t, global(9, bufCell(api.U8, bytesOf(api.MaxBytes+1)...)), api.ErrCell, 0)
	row := func(n int) []byte {
		return slices.Concat([]byte{api.Row}, num(uint64(n)), slices.Repeat(to(0), n))
	}
	wantTaken(t, global(api.MaxUnits, row(api.MaxUnits-1)))
	wantWrong(t, global(api.MaxUnits, row(api.MaxUnits)), api.ErrMemory, 0)
	wantWrong(t, global(api.MaxUnits, row(api.MaxUnits+1)), api.ErrCell, 0)
}

// Cells that a machine would not make itself are right: small numbers and short strings.
func TestCellsForNothing(t *testing.T) {
	src := "let g; fn f(x) { return g == x and x == g and not (g != x); } fn h() { return g + g; }"
	for _, x := range []struct {
		cell []byte
		r    api.Raw
		sum  api.Raw
	}{
		{intCell(0), whole(0), whole(0)}, {intCell(-1), whole(-1), whole(-2)}, {intCell(1<<47 - 1), whole(1<<47 - 1), whole(1<<48 - 2)},
		{textCell(""), text(""), text("")}, {textCell("a"), text("a"), text("aa")}, {textCell("hello"), text("hello"), text("hellohello")},
	} {
		p := parts{src: src, units: 99, cells: [][]byte{x.cell}, globals: [][]byte{to(0)}, sites: [][]byte{site(0, 0, 0, 0, 0, 0), site(0, 0, 0, 0, 0, 0), site(0, 0, 0, 0, 0, 0), site(0, 0, 0, 0, 0, 0)}}
		m := &player{t, wantTaken(t, p.bytes())}
		if r, e := m.Global("g"); r != x.r || e != api.OK {
			t.Errorf("the global is %s; want %s", short(r), short(x.r))
		}
		if r := m.run("f", x.r); r != truth(true) {
			t.Errorf("%s is not the same: %s", short(x.r), short(r))
		}
		if r := m.run("h"); r != x.sum {
			t.Errorf("the sum is %s; want %s", short(r), short(x.sum))
		}
		// In a word of its own a small number is another kind of pair than in a cell.
		p.sites[0], p.sites[1], p.sites[2], p.sites[3] = site(0, 1, 0, 0, 0, 0), site(0, 1, 0, 0, 0, 0), site(0, 1, 0, 0, 0, 0), site(0, 1, 0, 0, 0, 0)
		wantSave(t, m.Machine, p.bytes())
	}
}

// Cells at other places than they are come to at.
func TestPlaces(t *testing.T) {
	empty, u := rowCell(), bufCell(api.U8)
	for _, x := range []struct {
		cells   [][]byte
		globals [][]byte // two
		held    []uint64
		right   bool
	}{
		{nil, nil, nil, true},
		{[][]byte{empty}, [][]byte{to(0), to(0)}, nil, true},
		{[][]byte{empty, u}, [][]byte{to(0), to(1)}, nil, true},
		{[][]byte{empty, u}, [][]byte{to(1), to(0)}, nil, false},
		{[][]byte{empty, empty}, [][]byte{to(1), to(0)}, nil, false},
		{[][]byte{empty, u}, [][]byte{to(0), nilWord()}, []uint64{1}, true},
		{[][]byte{empty, u}, [][]byte{nilWord(), to(0)}, []uint64{1, 0}, true},
		{[][]byte{empty, u}, [][]byte{to(1), nilWord()}, []uint64{0}, false}, // globals go ahead
		{[][]byte{empty, u}, nil, []uint64{0, 1}, true},
		{[][]byte{empty, u}, nil, []uint64{1, 0}, false},
		{[][]byte{rowCell(to(1), to(2)), rowCell(), u}, [][]byte{to(0), nilWord()}, nil, true},
		{[][]byte{rowCell(to(2), to(1)), rowCell(), u}, [][]byte{to(0), nilWord()}, nil, false},
		{[][]byte{rowCell(to(1), to(3)), rowCell(to(2)), u, empty}, [][]byte{to(0), nilWord()}, nil, true},
		{[][]byte{rowCell(to(1), to(2)), rowCell(to(3)), u, empty}, [][]byte{to(0), nilWord()}, nil, false}, // in breadth
		{[][]byte{rowCell(to(1), to(2)), rowCell(to(2)), u}, [][]byte{to(0), nilWord()}, nil, true},
		{[][]byte{rowCell(to(1)), empty, u}, [][]byte{to(0), to(2)}, nil, true},
		{[][]byte{rowCell(to(2)), u, empty}, [][]byte{to(0), to(1)}, nil, false}, // what it leads to goes ahead of the next global
		{[][]byte{rowCell(to(1)), empty, u}, nil, []uint64{0, 2}, true},
		{[][]byte{rowCell(to(2)), u, empty}, nil, []uint64{0, 1}, false},
		{[][]byte{viewCell(api.U8, 1, 0, 0), u, empty}, [][]byte{to(0), to(2)}, nil, true},
		{[][]byte{viewCell(api.U8, 2, 0, 0), empty, u}, [][]byte{to(0), to(1)}, nil, false},
		{[][]byte{u, viewCell(api.U8, 0, 0, 0)}, [][]byte{to(0), to(1)}, nil, true},
		{[][]byte{u, viewCell(api.U8, 0, 0, 0)}, [][]byte{to(1), to(0)}, nil, false},
		{[][]byte{rowCell(to(0))}, [][]byte{nilWord(), to(0)}, nil, true},
		{[][]byte{rowCell(to(1)), rowCell(to(0))}, [][]byte{to(1), to(0)}, nil, false},
		// Not reached.
		{[][]byte{empty}, nil, nil, false},
		{[][]byte{empty, u}, [][]byte{to(0), nilWord()}, nil, false},
		{[][]byte{empty, u}, [][]byte{to(1), nilWord()}, nil, false},
		{[][]byte{empty, u}, nil, []uint64{0}, false},
		{[][]byte{rowCell(to(0))}, nil, nil, false},
		{[][]byte{rowCell(to(1)), rowCell(to(0))}, nil, nil, false},
		{[][]byte{empty, rowCell(to(2)), rowCell(to(1), to(0))}, [][]byte{to(0), to(0)}, nil, false},
		{[][]byte{viewCell(api.U8, 1, 0, 0), u}, [][]byte{nilWord(), nilWord()}, nil, false},
		{[][]byte{u, viewCell(api.U8, 0, 0, 0)}, [][]byte{to(0), nilWord()}, nil, false},
		{[][]byte{textCell("abcdef"), intCell(1)}, [][]byte{to(0), to(0)}, nil, false},
	} {
		p := parts{src: "let a; let b;", units: 99, cells: x.cells, globals: x.globals, next: 9}
		if x.globals == nil {
			p.globals = [][]byte{nilWord(), nilWord()}
		}
		for i, cell := range x.held {
			p.held = append(p.held, held(uint64(i), to(cell)))
		}
		if x.right {
			wantTaken(t, p.bytes())
		} else {
			wantWrong(t, p.bytes(), api.ErrCell, 0)
		}
	}
}

// Needs that are together just the units, and one more.
func TestNeeds(t *testing.T) {
	for _, x := range []struct {
		need  uint64
		cells [][]byte
	}{
		{2, [][]byte{intCell(1)}}, {1, [][]byte{textCell("")}}, {2, [][]byte{textCell("a")}}, {2, [][]byte{textCell(filler(8))}}, {3, [][]byte{textCell(filler(9))}},
		{1, [][]byte{bufCell(api.U8)}}, {2, [][]byte{bufCell(api.U8, 1)}}, {3, [][]byte{bufCell(api.I16, bytesOf(10)...)}}, {9, [][]byte{bufCell(api.F64, bytesOf(64)...)}},
		{1, [][]byte{rowCell()}}, {4, [][]byte{rowCell(nilWord(), nilWord(), to(0))}},
		{2, [][]byte{viewCell(api.U8, 1, 0, 0), bufCell(api.U8)}}, {5, [][]byte{viewCell(api.F64, 1, 0, 3), bufCell(api.U8, bytesOf(24)...)}},
		{4 + 2 + 3 + 1 + 2, [][]byte{rowCell(to(1), to(2), to(3)), intCell(1), textCell(filler(10)), viewCell(api.I16, 4, 0, 1), bufCell(api.I16, 1, 2)}},
	} {
		wantTaken(t, global(x.need, x.cells...))
		wantTaken(t, global(api.MaxUnits, x.cells...))
		for units := range x.need {
			wantWrong(t, global(units, x.cells...), api.ErrMemory, 0)
		}
	}
	half := rowCell(slices.Repeat([][]byte{nilWord()}, api.MaxUnits/2-2)...)
	both := func(second []byte) []byte {
		return parts{src: "let a; let b;", units: api.MaxUnits, cells: [][]byte{half, second}, globals: [][]byte{to(0), to(1)}}.bytes()
	}
	wantTaken(t, both(bufCell(api.F64, bytesOf(api.MaxUnits/2*8)...)))
	wantWrong(t, both(bufCell(api.F64, bytesOf(api.MaxUnits/2*8+8)...)), api.ErrMemory, 0)
}
