package image_test

import (
	"slices"
	"testing"

	"casket/api"
	"casket/image"
)

// Promise 20.2: in which order cells are written.

// plain are the parts of a machine of maker that holds nothing.
func plain(cells [][]byte, globals ...[]byte) parts {
	for len(globals) < 3 {
		globals = append(globals, nilWord())
	}
	return parts{src: maker, units: plenty, cells: cells, globals: globals, sites: makerSites()}
}

// Globals come in the order of the source, whatever their names, and whatever stands between.
func TestOrderOfGlobals(t *testing.T) {
	src := "let z; fn f() { } let a; let m; fn g(x) { let y = x; } let b;"
	p := play(t, src, 99)
	for i, name := range []string{"b", "m", "a", "z"} {
		p.set(name, text("string "+string(rune('0'+i))))
	}
	want := parts{src: src, units: 99, globals: [][]byte{to(0), to(1), to(2), to(3)}}
	for _, digit := range "3210" {
		want.cells = append(want.cells, textCell("string "+string(digit)))
	}
	wantSave(t, p.Machine, want.bytes())
}

// What is held comes behind what globals lead to, by rising numbers; what both lead to among the globals'.
func TestOrderOfHeld(t *testing.T) {
	p := play(t, maker, plenty)
	var rows []api.Raw
	for n := range int64(4) {
		rows = append(rows, p.run("row_", whole(n)))
	}
	p.set("b", rows[2])
	want := plain([][]byte{rowCell(nilWord(), nilWord()), rowCell(), rowCell(nilWord()), rowCell(nilWord(), nilWord(), nilWord())}, nilWord(), to(0))
	want.next = 4
	want.held = [][]byte{held(0, to(1)), held(1, to(2)), held(2, to(0)), held(3, to(3))}
	wantSave(t, p.Machine, want.bytes())
	p.release(rows[0], rows[2])
	want.cells = slices.Delete(want.cells, 1, 2)
	want.held = [][]byte{held(1, to(1)), held(3, to(2))}
	wantSave(t, p.Machine, want.bytes())
}

// Two globals, and a row twice, that hold one thing: it is written once.
func TestOrderOfOneThing(t *testing.T) {
	p := play(t, maker, plenty)
	r, u := p.run("row_", whole(3)), p.run("u8_", whole(1))
	p.poke(r, 0, u)
	p.poke(r, 2, u)
	p.set("a", u)
	p.set("b", r)
	p.set("c", u)
	p.release(r, u)
	want := plain([][]byte{bufCell(api.U8, 0), rowCell(to(0), nilWord(), to(0))}, to(0), to(1), to(0))
	want.next = 2
	wantSave(t, p.Machine, want.bytes())
}

// Two strings of the same bytes are two cells.
func TestOrderOfLikeCells(t *testing.T) {
	p := play(t, maker, plenty)
	p.set("a", text("abcdef"))
	p.set("c", text("abcdef"))
	wantSave(t, p.Machine, plain([][]byte{textCell("abcdef"), textCell("abcdef")}, to(0), nilWord(), to(1)).bytes())
}

// A row's first word leads to all that is behind it ahead of the second.
func TestOrderInDepth(t *testing.T) {
	p := play(t, maker, plenty)
	root, left, right := p.run("row_", whole(2)), p.run("row_", whole(2)), p.run("row_", whole(2))
	buffer := p.run("u8_", whole(2))
	view := p.run("view_", buffer, text("i16"), whole(0), whole(1))
	p.poke(root, 0, left)
	p.poke(root, 1, right)
	p.poke(left, 0, view)
	p.poke(left, 1, text("on the left"))
	p.poke(right, 0, whole(1<<50))
	p.poke(right, 1, buffer)
	p.set("b", root)
	p.set("c", text("behind it"))
	p.release(root, left, right, buffer, view)
	want := plain([][]byte{
		rowCell(to(1), to(5)), rowCell(to(2), to(4)), viewCell(api.I16, 3, 0, 1), bufCell(api.U8, 0, 0), textCell("on the left"),
		rowCell(to(6), to(3)), intCell(1 << 50), textCell("behind it"),
	}, nilWord(), to(0), to(7))
	want.next = 5
	wantSave(t, p.Machine, want.bytes())
}

// Rows that hold themselves and one another.
func TestOrderInRings(t *testing.T) {
	p := play(t, maker, plenty)
	x, y, z := p.run("row_", whole(2)), p.run("row_", whole(2)), p.run("row_", whole(1))
	p.poke(x, 0, x)
	p.poke(x, 1, z)
	p.poke(z, 0, y)
	p.poke(y, 0, x)
	p.poke(y, 1, y)
	p.set("a", x)
	p.set("b", y)
	p.release(x, y, z)
	want := plain([][]byte{rowCell(to(0), to(1)), rowCell(to(2)), rowCell(to(0), to(2))}, to(0), to(2))
	want.next = 3
	wantSave(t, p.Machine, want.bytes())
	p.set("a", null)
	want = plain([][]byte{rowCell(to(1), to(0)), rowCell(to(1), to(2)), rowCell(to(0))}, nilWord(), to(0))
	want.next = 3
	wantSave(t, p.Machine, want.bytes())
}

// A thing that is held, and is no global's, leads on as well.
func TestOrderBehindHeld(t *testing.T) {
	p := play(t, maker, plenty)
	inner, outer, shared := p.run("row_", whole(1)), p.run("row_", whole(2)), p.run("f64_", whole(1))
	p.poke(inner, 0, text("inside"))
	p.poke(outer, 0, shared)
	p.poke(outer, 1, inner)
	p.set("c", shared)
	p.release(inner)
	want := plain([][]byte{bufCell(api.F64, make([]byte, 8)...), rowCell(to(0), to(2)), rowCell(to(3)), textCell("inside")}, nilWord(), nilWord(), to(0))
	want.next = 3
	want.held = [][]byte{held(1, to(1)), held(2, to(0))}
	wantSave(t, p.Machine, want.bytes())
}

// chained is a machine that has a chain of n rows, each with one word, and so many units.
func chained(n, units uint64) []byte {
	b := append(parts{src: "let g;", units: units}.head(), num(n)...)
	for i := range n - 1 {
		b = append(b, api.Row, 1)
		b = append(b, to(i+1)...)
	}
	return slices.Concat(b, rowCell(nilWord()), to(0), num(0), num(0))
}

// Chains of very many rows: as many as the greatest heap has units for.
func TestOrderInChains(t *testing.T) {
	src := "let g; fn f(n) { for i in 0..n { let r = row(1); r[0] = g; g = r; } }"
	for _, n := range []uint64{1, 2, 200, 1 << 16, api.MaxUnits / 2} {
		p := play(t, src, api.MaxUnits)
		p.run("f", whole(int64(n)))
		b := chained(n, api.MaxUnits)
		b = slices.Concat([]byte{67}, num(uint64(len(src))), []byte(src), b[2+len("let g;"):])
		wantSave(t, p.Machine, b)
		wantWrong(t, chained(n, 2*n-1), api.ErrMemory, 0)
	}
}

// Chains that no heap has units for are not taken, however long: the call ends.
func TestOrderInTooLongChains(t *testing.T) {
	for _, n := range []uint64{api.MaxUnits/2 + 1, api.MaxUnits} {
		wantWrong(t, chained(n, api.MaxUnits), api.ErrMemory, 0)
	}
	if m, e, at := image.Load(chained(api.MaxUnits+999, api.MaxUnits)); m != nil || e == api.OK || at != 0 {
		t.Errorf("Load: %d at %d", e, at)
	}
}
