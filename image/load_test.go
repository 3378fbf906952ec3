package image_test

import (
	"slices"
	"strings"
	"testing"

	"casket/api"
	"casket/check"
)

// Promise 20.5: what is wrong first, and where; each with its own bytes, one by one.

// nothing is a machine of no source.
var nothing = []byte{67, 0, 9, 0, 0, 0}

func TestLoadOfNoBytes(t *testing.T) {
	wantWrong(t, nil, api.ErrCut, 0)
	wantWrong(t, []byte{}, api.ErrCut, 0)
}

func TestLoadOfFirstByte(t *testing.T) {
	for first := range 256 {
		b := slices.Clone(nothing)
		b[0] = byte(first)
		if first == 67 {
			wantTaken(t, b)
			wantWrong(t, b[:1], api.ErrCut, 1)
			continue
		}
		wantWrong(t, b, api.ErrKind, 0)
		wantWrong(t, b[:1], api.ErrKind, 0)
		wantWrong(t, []byte{byte(first), 128}, api.ErrKind, 0)
	}
}

func TestLoadOfBeginnings(t *testing.T) {
	for n, at := range []int{0, 1, 2, 3, 4, 5} {
		wantWrong(t, nothing[:n], api.ErrCut, at)
	}
}

func TestLoadOfTails(t *testing.T) {
	for tail := range 256 {
		wantWrong(t, append(slices.Clone(nothing), byte(tail)), api.ErrTail, 6)
		wantWrong(t, append(slices.Clone(nothing), byte(tail), 0, 0), api.ErrTail, 6)
	}
	src := "let g;"
	b := parts{src: src, units: 9, globals: [][]byte{nilWord()}}.bytes()
	wantTaken(t, b)
	wantWrong(t, append(slices.Clone(b), 67), api.ErrTail, len(b))
}

// Shorts: each place where one stands, with each form.
func TestLoadOfShorts(t *testing.T) {
	for _, x := range []struct {
		head  []byte
		tail  []byte
		great api.Errno // of a number that is as great as can be
		more  int       // so many bytes behind the Short it is told
	}{
		{[]byte{67}, []byte{9, 0, 0, 0}, api.ErrLong, 1},
		{[]byte{67, 0}, []byte{0, 0, 0}, api.ErrArg, 0},
		{[]byte{67, 0, 9}, []byte{0, 0}, api.ErrForm, 1}, // the cells are none
		{[]byte{67, 0, 9, 0}, []byte{0}, api.ErrRef, 0},
		{[]byte{67, 0, 9, 0, 0}, nil, api.ErrCut, 1},
	} {
		at := len(x.head)
		with := func(s ...byte) []byte { return slices.Concat(x.head, s, x.tail) }
		wantTaken(t, with(0))
		for _, wrong := range [][]byte{
			{128, 0}, {129, 0}, {255, 0}, {128, 128, 0}, {129, 128, 0}, {255, 255, 255, 255, 255, 255, 255, 0},
			{128, 128, 128, 128, 128, 128, 128, 128, 0}, {255, 255, 255, 255, 255, 255, 255, 255, 0}, // nine bytes, the last for nothing
			{128, 128, 128, 128, 128, 128, 128, 128, 128, 0}, {255, 255, 255, 255, 255, 255, 255, 255, 255, 0}, // ten
			{128, 128, 128, 128, 128, 128, 128, 128, 128, 1},   // 2^63
			{255, 255, 255, 255, 255, 255, 255, 255, 255, 1},   // 2^64 - 1
			{128, 128, 128, 128, 128, 128, 128, 128, 128, 2},   // 2^64
			{129, 128, 128, 128, 128, 128, 128, 128, 128, 127}, // more than 64 bits
			{128, 128, 128, 128, 128, 128, 128, 128, 128, 128, 1},
			{128, 128, 128, 128, 128, 128, 128, 128, 128, 128, 128, 0},
			append(slices.Repeat([]byte{255}, 99), 127),
		} {
			wantWrong(t, with(wrong...), api.ErrForm, at)
			wantWrong(t, slices.Concat(x.head, wrong), api.ErrForm, at)
		}
		// One without a last byte is not all there, however long it is.
		for n := range 20 {
			wantWrong(t, append(slices.Clone(x.head), slices.Repeat([]byte{128}, n)...), api.ErrCut, at)
			wantWrong(t, append(slices.Clone(x.head), slices.Repeat([]byte{255}, n)...), api.ErrCut, at)
		}
		place := at
		if x.more > 0 {
			place += 9 * x.more
		}
		wantWrong(t, with(num(1<<63-1)...), x.great, place)
	}
}

// Lengths of sources, at both sides of the bound, with their bytes and without.
func TestLoadOfSourceLengths(t *testing.T) {
	long := strings.Repeat(" ", api.MaxSource)
	rest := []byte{9, 0, 0, 0}
	head := slices.Concat([]byte{67}, num(api.MaxSource))
	wantTaken(t, slices.Concat(head, []byte(long), rest))
	wantWrong(t, slices.Concat(head, []byte(long)), api.ErrCut, len(head)+api.MaxSource)
	wantWrong(t, slices.Concat(head, []byte(long[1:])), api.ErrCut, len(head))
	wantWrong(t, head, api.ErrCut, len(head))

	head = slices.Concat([]byte{67}, num(api.MaxSource+1))
	wantWrong(t, slices.Concat(head, []byte(long+" "), rest), api.ErrLong, len(head))
	wantWrong(t, slices.Concat(head, []byte("$"+long), rest), api.ErrLong, len(head))
	wantWrong(t, slices.Concat(head, []byte(long)), api.ErrLong, len(head))
	wantWrong(t, head, api.ErrLong, len(head))
	for _, n := range []uint64{1 << 20, 1 << 31, 1 << 32, 1<<32 + 1, 1 << 62, 1<<63 - 1} {
		head := slices.Concat([]byte{67}, num(n))
		wantWrong(t, head, api.ErrLong, len(head))
		wantWrong(t, append(head, ' ', ' '), api.ErrLong, len(head))
	}
}

// A source's fault is told at its place in the bytes, ahead of all that stands behind the source.
func TestLoadOfFaults(t *testing.T) {
	for _, src := range []string{
		"fn", "$", "let", "let a; let a;", "fn f() { x = 1; }", "fn f() { return 007; }", "fn f() { \"a", "fn f() { break; }", "fn f() { g(1); } fn g() { }", "let len;",
		strings.Repeat(" ", 300) + "fn", "fn f() { " + strings.Repeat("(", 70), "let " + filler(32) + ";", "#\n#\n\n }",
	} {
		_, fault := check.Load(src)
		if fault.Code == api.OK {
			t.Fatal(src)
		}
		head := slices.Concat([]byte{67}, num(uint64(len(src))))
		for _, rest := range [][]byte{nil, {9, 0, 0, 0}, {128}, {128, 0}, {255, 255, 255, 255, 1}} {
			wantWrong(t, slices.Concat(head, []byte(src), rest), fault.Code, len(head)+fault.At)
		}
		wantWrong(t, slices.Concat(head, []byte(src[1:])), api.ErrCut, len(head))
	}
	wantWrong(t, []byte{67, 4, ' ', '$', ' ', '$', 9, 0, 0, 0}, api.ErrByte, 3)
}

func TestLoadOfUnits(t *testing.T) {
	for _, units := range []uint64{0, 1, 127, 128, api.MaxUnits - 1, api.MaxUnits} {
		wantTaken(t, parts{units: units}.bytes())
	}
	for _, units := range []uint64{api.MaxUnits + 1, 2 * api.MaxUnits, 1 << 32, 1<<32 + 9, 1<<63 - 1} {
		wantWrong(t, parts{units: units}.bytes(), api.ErrArg, 2)
		wantWrong(t, parts{units: units}.head(), api.ErrArg, 2)
	}
}

// The first byte of a cell, of each value.
func TestLoadOfKinds(t *testing.T) {
	head := append(parts{src: "let g;", units: 99}.head(), 2)
	cells := map[int][]byte{
		api.Int: intCell(7)[1:], api.Text: textCell("abc")[1:], api.F64: bufCell(api.F64)[1:], api.F32: bufCell(api.F32, 1, 2, 3, 4)[1:], api.I16: bufCell(api.I16, 1, 2)[1:], api.U8: bufCell(api.U8, 1)[1:], api.Row: rowCell(nilWord())[1:],
		32 + api.F64: {1, 0, 1}, 32 + api.F32: {1, 0, 1}, 32 + api.I16: {1, 0, 1}, 32 + api.U8: {1, 0, 1},
	}
	for first := range 256 {
		body, right := cells[first]
		if !right {
			wantWrong(t, append(slices.Clone(head), byte(first)), api.ErrForm, len(head))
			wantWrong(t, append(slices.Clone(head), byte(first), 0, 0, 0, 0, 0, 0, 0, 0, 0, 0, 0), api.ErrForm, len(head))
			continue
		}
		wantWrong(t, append(slices.Clone(head), byte(first)), api.ErrCut, len(head)+1)
		tail := slices.Concat(bufCell(api.U8, make([]byte, 8)...), to(0), []byte{0, 0})
		whole := slices.Concat(head, []byte{byte(first)}, body, tail)
		if first >= 32 {
			wantTaken(t, whole)
			continue
		}
		wantWrong(t, whole, api.ErrCell, 0) // the second one is not reached
	}
	if len(cells) != 11 {
		t.Error(len(cells))
	}
}

// Each part of a cell that is cut short.
func TestLoadOfCutCells(t *testing.T) {
	head := append(parts{src: "let g;", units: 99}.head(), 9)
	at := len(head)
	for _, x := range []struct {
		cell   []byte
		places []int // of the part that is cut, by how many bytes are there
	}{
		{intCell(5), []int{0, 1, 1, 1, 1, 1, 1, 1, 1}},
		{textCell("abc"), []int{0, 1, 2, 2, 2}},
		{textCell(filler(200))[:5], []int{0, 1, 1, 3, 3}},
		{bufCell(api.U8, 1, 2), []int{0, 1, 2, 2}},
		{bufCell(api.F64, make([]byte, 8)...), []int{0, 1, 2, 2, 2, 2, 2, 2, 2, 2}},
		{viewCell(api.I16, 1, 2, 3), []int{0, 1, 2, 3}},
		{viewCell(api.U8, 8, 300, 300), []int{0, 1, 2, 2, 4, 4}},
		{rowCell(small(1), to(8)), []int{0, 1, 2, 3, 3, 3, 3, 3, 3, 3, 3, 11, 12}},
	} {
		for n, place := range x.places {
			wantWrong(t, slices.Concat(head, x.cell[:n]), api.ErrCut, at+place)
			wantWrong(t, slices.Concat(head, textCell(""), x.cell[:n]), api.ErrCut, at+2+place)
		}
	}
	// Lengths that nothing could have, without their bytes.
	for _, n := range []uint64{200, 1 << 23, 1<<23 + 1, 1 << 32, 1 << 61, 1<<63 - 1} {
		long := num(n)
		for kind := api.Text; kind <= api.U8; kind++ {
			wantWrong(t, slices.Concat(head, []byte{byte(kind)}, long, []byte{1, 2, 3}), api.ErrCut, at+1+len(long))
		}
		wantWrong(t, slices.Concat(head, []byte{api.Row}, long), api.ErrCut, at+1+len(long))
		wantWrong(t, slices.Concat(head, []byte{api.Row}, long, to(3), to(4)), api.ErrCut, at+1+len(long)+4)
	}
	// More cells than there are bytes.
	for _, n := range []uint64{2, 1000, 1 << 48, 1<<48 + 1, 1<<63 - 1} {
		head := append(parts{src: "let g;", units: 99}.head(), num(n)...)
		wantWrong(t, head, api.ErrCut, len(head))
		wantWrong(t, slices.Concat(head, rowCell(to(n-1))), api.ErrCut, len(head)+2+len(to(n-1)))
		wantWrong(t, slices.Concat(head, viewCell(api.U8, n-1, 0, 0)), api.ErrCut, len(head)+3+len(num(n-1)))
		wantWrong(t, slices.Concat(head, rowCell(to(n))), api.ErrCell, len(head)+3)
	}
}

// Words, in each place where one stands.
func TestLoadOfWords(t *testing.T) {
	head := parts{src: "let g;", units: 99}.head()
	for _, x := range []struct {
		head, tail []byte // around a word
	}{
		{append(slices.Clone(head), 0), []byte{0, 0}},
		{append(slices.Clone(head), 1, api.Row, 1), []byte{1, 0, 0, 0}},
		{slices.Concat(head, []byte{2, api.Row, 2}, to(1)), slices.Concat(rowCell(), to(0), []byte{0, 0})},
		{slices.Concat(head, []byte{2}, rowCell(to(1)), []byte{api.Row, 1}), slices.Concat(to(0), []byte{0, 0})},
	} {
		at := len(x.head)
		with := func(w ...byte) []byte { return slices.Concat(x.head, w, x.tail) }
		for _, w := range []uint64{0, 1, one, api.Canon, 0x7ff0000000000000, 0xfff0000000000000, 0x7fefffffffffffff, 0xfff8000000000000, 0xfff8000000000001, 0xfff8000000000002, 0xfff9000000000000, 0xfff9ffffffffffff, 0xfffa000000000000, 0xfffa0500ffffffff} {
			wantTaken(t, with(itself(w)...))
		}
		for _, w := range []uint64{
			0x7ff0000000000001, 0x7ff8000000000001, 0x7fffffffffffffff, 0xfff0000000000001, 0xfff7ffffffffffff, 0xfff8000000000003, 0xfff8ffffffffffff, 0xfffa060000000000, 0xfffa010000006261, 0xfffc000000000000, 0xffffffffffffffff, // stray
			0xfffb000000000000, 0xfffb000000000001, 0xfffbffffffffffff, // with a handle
		} {
			wantWrong(t, with(itself(w)...), api.ErrStray, at)
			wantWrong(t, slices.Concat(x.head, itself(w)), api.ErrStray, at)
		}
		for first := 2; first < 256; first++ {
			wantWrong(t, with(byte(first), 0, 0, 0, 0, 0, 0, 0, 0), api.ErrForm, at)
			wantWrong(t, append(slices.Clone(x.head), byte(first)), api.ErrForm, at)
		}
		for n := 1; n < 9; n++ {
			wantWrong(t, append(slices.Clone(x.head), itself(0xffffffffffffffff)[:n]...), api.ErrCut, at+1)
		}
		wantWrong(t, x.head, api.ErrCut, at)
		wantWrong(t, append(slices.Clone(x.head), 1), api.ErrCut, at+1)
		wantWrong(t, with(1, 128, 0), api.ErrForm, at+1)
		for _, n := range []uint64{3, 127, 128, 1 << 31, 1 << 48, 1<<48 + 1, 1<<63 - 1} {
			wantWrong(t, with(to(n)...), api.ErrCell, at+1)
			wantWrong(t, slices.Concat(x.head, to(n)), api.ErrCell, at+1)
		}
	}
}

// Numbers of cells: just below how many there are, and one more.
func TestLoadOfNumbers(t *testing.T) {
	for _, n := range []uint64{1, 2, 128, 129, 300} {
		var list [][]byte
		for i := range n - 1 {
			list = append(list, rowCell(to(i+1)))
		}
		p := parts{src: "let g;", units: plenty, cells: append(list, rowCell(to(n-1))), globals: [][]byte{to(0)}}
		wantTaken(t, p.bytes())
		p.cells = append(list, rowCell(to(n)))
		wantWrong(t, p.bytes(), api.ErrCell, len(p.upToGlobals())-len(num(n)))

		p.cells = append(slices.Repeat([][]byte{rowCell()}, int(n-1)), rowCell())
		p.globals = [][]byte{to(n)}
		wantWrong(t, p.bytes(), api.ErrCell, len(p.upToGlobals())+1)

		p.cells = [][]byte{viewCell(api.U8, n, 0, 0)}
		wantWrong(t, p.bytes(), api.ErrCell, len(p.head())+2)
	}
}

// The least number that was never given, and the numbers of things.
func TestLoadOfThings(t *testing.T) {
	for _, next := range []uint64{0, 1, 128, 1<<31 - 2, 1<<31 - 1} {
		m := wantTaken(t, parts{units: 9, next: next}.bytes())
		if m.Release(0) != api.ErrRef {
			t.Error("it holds a thing")
		}
	}
	for _, next := range []uint64{1 << 31, 1<<31 + 1, 1 << 32, 1<<63 - 1} {
		wantWrong(t, parts{units: 9, next: next}.bytes(), api.ErrRef, 4)
		wantWrong(t, append(parts{units: 9}.upToThings(), num(next)...), api.ErrRef, 4)
	}

	rows := [][]byte{rowCell(), rowCell(), rowCell()}
	saved := func(next uint64, refs ...uint64) ([]byte, []int) {
		p := parts{units: 9, next: next, cells: rows[:len(refs)]}
		at := len(p.upToThings()) + len(num(next)) + 1
		var places []int
		for i, ref := range refs {
			places = append(places, at)
			h := held(ref, to(uint64(i)))
			p.held = append(p.held, h)
			at += len(h)
		}
		return p.bytes(), places
	}
	for _, x := range []struct {
		next  uint64
		refs  []uint64
		wrong int // which one, or none
	}{
		{1, []uint64{0}, -1}, {2, []uint64{0, 1}, -1}, {9, []uint64{3, 7, 8}, -1}, {1<<31 - 1, []uint64{0, 127, 1<<31 - 2}, -1},
		{0, []uint64{0}, 0}, {3, []uint64{3}, 0}, {3, []uint64{4}, 0}, {3, []uint64{0, 3}, 1}, {1<<31 - 1, []uint64{0, 1<<31 - 1}, 1}, {1<<31 - 1, []uint64{1<<63 - 1}, 0}, {9, []uint64{1 << 32}, 0},
		{9, []uint64{3, 3}, 1}, {9, []uint64{3, 2}, 1}, {9, []uint64{0, 0}, 1}, {9, []uint64{1, 5, 5}, 2}, {9, []uint64{1, 5, 0}, 2}, {9, []uint64{5, 1, 0}, 1}, {300, []uint64{200, 199}, 1},
	} {
		b, places := saved(x.next, x.refs...)
		if x.wrong < 0 {
			m := wantTaken(t, b)
			for _, ref := range x.refs {
				if e := m.Release(int(ref)); e != api.OK {
					t.Errorf("Release(%d): %d", ref, e)
				}
			}
			continue
		}
		place := places[x.wrong]
		wantWrong(t, b, api.ErrRef, place)
		wantWrong(t, b[:place+len(num(x.refs[x.wrong]))], api.ErrRef, place) // ahead of what is missing behind
	}
	// More things are told than there are.
	wantWrong(t, []byte{67, 0, 9, 1, api.Row, 0, 2, 2, 0, 1, 0}, api.ErrCut, 11)
	wantWrong(t, []byte{67, 0, 9, 1, api.Row, 0, 2, 2, 0, 1, 0, 1}, api.ErrCut, 12)
	wantWrong(t, slices.Concat([]byte{67, 0, 9, 0, 2}, num(1<<63-1)), api.ErrCut, 14)
}

// Words of things are a thing's.
func TestLoadOfThingsWords(t *testing.T) {
	for _, x := range []struct {
		cells [][]byte
		w     []byte
		code  api.Errno
		more  int
	}{
		{[][]byte{rowCell()}, to(0), api.OK, 0}, {[][]byte{bufCell(api.F64)}, to(0), api.OK, 0}, {[][]byte{bufCell(api.F32)}, to(0), api.OK, 0}, {[][]byte{bufCell(api.I16)}, to(0), api.OK, 0}, {[][]byte{bufCell(api.U8, 1, 2, 3)}, to(0), api.OK, 0},
		{[][]byte{viewCell(api.F64, 1, 0, 0), bufCell(api.U8, 1)}, to(0), api.OK, 0}, {[][]byte{viewCell(api.U8, 1, 0, 0), bufCell(api.U8, 1)}, to(0), api.OK, 0},
		{[][]byte{intCell(1)}, to(0), api.ErrRef, 0}, {[][]byte{textCell("")}, to(0), api.ErrRef, 0}, {[][]byte{textCell(filler(99))}, to(0), api.ErrRef, 0},
		{nil, nilWord(), api.ErrRef, 0}, {nil, small(0), api.ErrRef, 0}, {nil, itself(0), api.ErrRef, 0}, {nil, tiny("ab"), api.ErrRef, 0}, {nil, itself(api.Canon), api.ErrRef, 0},
		{nil, itself(0xfffb000000000000), api.ErrStray, 0}, {nil, itself(0xffffffffffffffff), api.ErrStray, 0}, {nil, []byte{2, 0}, api.ErrForm, 0},
		{nil, to(0), api.ErrCell, 1}, {[][]byte{rowCell()}, to(1), api.ErrCell, 1}, {[][]byte{rowCell()}, []byte{1, 128, 0}, api.ErrForm, 1},
		{[][]byte{rowCell()}, []byte{1}, api.ErrCut, 1}, {nil, nil, api.ErrCut, 0}, {nil, []byte{0, 1, 2}, api.ErrCut, 1},
	} {
		p := parts{units: 99, next: 9, cells: x.cells, held: [][]byte{held(5, x.w)}}
		if x.code == api.OK {
			wantTaken(t, p.bytes())
			continue
		}
		wantWrong(t, p.bytes(), x.code, len(p.upToThings())+3+x.more)
	}
}

// One thing may be held by two numbers: the lower one is told, as long as it is not released.
func TestLoadOfOneThingTwice(t *testing.T) {
	p := parts{src: "let g;", units: 9, cells: [][]byte{rowCell()}, globals: [][]byte{to(0)}, next: 9, held: [][]byte{held(2, to(0)), held(5, to(0))}}
	m := wantTaken(t, p.bytes())
	if r, e := m.Global("g"); r != (api.Raw{Kind: api.Row, Ref: 2}) || e != api.OK {
		t.Error(r, e)
	}
	m.Release(2)
	if r, e := m.Global("g"); r != (api.Raw{Kind: api.Row, Ref: 5}) || e != api.OK {
		t.Error(r, e)
	}
	m.Release(5)
	if r, e := m.Global("g"); r != (api.Raw{Kind: api.Row, Ref: 9}) || e != api.OK {
		t.Error(r, e)
	}
	p.next, p.held = 10, [][]byte{held(9, to(0))}
	wantSave(t, m, p.bytes())
}

// Several wrongs at once: the first is told.
func TestLoadOfSeveralWrongs(t *testing.T) {
	src := "let g; fn f(a) { return a + 1; }"
	stray := itself(0xffffffffffffffff)
	wrong := parts{src: src, units: 1, cells: [][]byte{rowCell(), bufCell(api.I16, 1, 2, 3)}, globals: [][]byte{stray}, next: 1 << 31, held: [][]byte{held(7, nilWord()), held(3, stray)}, sites: [][]byte{site(3, 1<<63-1, 1<<63-1, 1<<31, 3, 9), {0}}}
	wantWrong(t, wrong.bytes(), api.ErrStray, len(wrong.upToGlobals()))
	wrong.globals = [][]byte{to(1)}
	wantWrong(t, wrong.bytes(), api.ErrRef, len(wrong.upToThings()))
	wrong.next = 9
	at := len(wrong.upToThings()) + 2
	wantWrong(t, wrong.bytes(), api.ErrRef, at+1)
	wrong.held[0] = held(7, to(0))
	wantWrong(t, wrong.bytes(), api.ErrRef, at+3)
	wrong.held[1] = held(8, stray)
	wantWrong(t, wrong.bytes(), api.ErrStray, at+4)
	wrong.held[1] = held(8, to(0))
	at = len(wrong.upToSites())
	for i, s := range [][]byte{site(3, 1<<63-1, 1<<63-1, 1<<31, 3, 9), site(0, 1<<63-1, 1<<63-1, 1<<31, 3, 9), site(0, 0, 1<<63-1, 1<<31, 3, 9), site(0, 0, 0, 1<<31, 3, 9), site(0, 0, 0, 0, 3, 9), site(0, 0, 0, 0, 2, 9)} {
		wrong.sites[0] = s
		wantWrong(t, wrong.bytes(), api.ErrForm, at+i)
	}
	wrong.sites[0] = site(0, 0, 0, 0, 2, 1)
	wantWrong(t, wrong.bytes(), api.ErrTail, at+6)
	wrong.sites = wrong.sites[:1]
	wantWrong(t, wrong.bytes(), api.ErrCell, 0) // it is not right, stands elsewhere, and there are too few units
	wrong.cells[1] = bufCell(api.I16, 1, 2)
	wantWrong(t, wrong.bytes(), api.ErrCell, 0) // the order, and too few units
	wrong.globals, wrong.held[1] = [][]byte{to(0)}, held(8, to(1))
	wantWrong(t, wrong.bytes(), api.ErrMemory, 0)
	wrong.units = 3
	wantTaken(t, wrong.bytes())
}
