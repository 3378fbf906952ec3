package image_test

import (
	"math"
	"slices"
	"strings"
	"testing"

	"casket/api"
	"casket/image"
	"casket/vm"
	"casket/word"
)

// Promises 20.1 to 20.4: what Save writes.

func TestSaveOfNoSource(t *testing.T) {
	for units, want := range map[int][]byte{0: {0}, 1: {1}, 127: {127}, 128: {128, 1}, 300: {172, 2}, 16383: {255, 127}, 16384: {128, 128, 1}, api.MaxUnits - 1: {255, 255, 63}, api.MaxUnits: {128, 128, 64}} {
		wantSave(t, open(t, "", units), slices.Concat([]byte{67, 0}, want, []byte{0, 0, 0}))
	}
}

// A source is written as it stands: blanks, remarks and all, whatever its length.
func TestSaveOfSources(t *testing.T) {
	for _, src := range []string{" ", "\n", "# \xff\x00", "fn f(){}", " fn  f ( ) { } # that", strings.Repeat(" ", 127), strings.Repeat("\n", 128), filler(0) + "#" + filler(16383), "#" + filler(api.MaxSource-1)} {
		wantSave(t, open(t, src, 5), slices.Concat([]byte{67}, num(uint64(len(src))), []byte(src), []byte{5, 0, 0, 0}))
	}
}

// A machine that New has not made has nothing.
func TestSaveOfZero(t *testing.T) {
	wantSave(t, &vm.Machine{}, []byte{67, 0, 0, 0, 0, 0})
}

func TestSaveInRun(t *testing.T) {
	p := play(t, maker, 99)
	p.set("a", text("abcdef"))
	was := save(t, p.Machine)
	p.Start("row_", []api.Raw{whole(2)}, 9)
	for more := true; more; more = p.Step() {
		if b, e := image.Save(p.Machine); len(b) != 0 || e != api.ErrState {
			t.Errorf("Save in a run: %x, %d", b, e)
		}
	}
	if len(save(t, p.Machine)) <= len(was) {
		t.Error("the run's value is held behind its end")
	}
}

// Behind a run's end, however it ended, nothing of it is written but what it left.
func TestSaveBehindRuns(t *testing.T) {
	src := "let g; fn f(n) { g = n; let r = row(5); out n; r[0] = \"a long string\"; return n // n; }"
	for _, x := range []struct {
		arg  api.Raw
		fuel int64
		g    []byte
		site []byte
	}{
		{whole(3), 99, small(3), site(0, 1, 0, 0, api.Whole, 1)},
		{whole(0), 99, small(0), site(0, 1, 0, 0, api.Whole, 1)}, // refused
		{double(one), 99, itself(one), site(0, 1, 0, 0, api.Double, 1)},
		{text("ab"), 99, tiny("ab"), site(0, 1, 0, 0, 0, 0)}, // refused
		{whole(4), 2, small(4), site(0, 0, 0, 0, 0, 0)},      // out of fuel
		{whole(4), 0, nilWord(), site(0, 0, 0, 0, 0, 0)},
	} {
		m := open(t, src, 40)
		if _, e := m.Run("f", []api.Raw{x.arg}, x.fuel); e != api.OK {
			t.Fatal(e)
		}
		wantSave(t, m, parts{src: src, units: 40, globals: [][]byte{x.g}, sites: [][]byte{x.site}}.bytes())
	}
}

// A run that was left when it was refused ahead leaves nothing.
func TestSaveBehindRefusals(t *testing.T) {
	m := open(t, maker, 3)
	want := parts{src: maker, units: 3, globals: [][]byte{nilWord(), nilWord(), nilWord()}, sites: makerSites()}.bytes()
	m.Start("nobody", nil, 9)
	m.Start("row_", nil, 9)
	m.Start("add", []api.Raw{text("abcdef"), text(filler(99))}, 9)
	m.SetGlobal("a", text(filler(99)))
	m.Global("d")
	m.Peek(0, 0)
	m.Force(7, 1)
	wantSave(t, m, want)
}

// Globals of each kind of value.
func TestSaveOfGlobals(t *testing.T) {
	src := "let g;"
	for _, x := range []struct {
		r     api.Raw
		cells [][]byte
		word  []byte
	}{
		{null, nil, []byte{0, 0, 0, 0, 0, 0, 0, 0xf8, 0xff}},
		{truth(false), nil, []byte{0, 1, 0, 0, 0, 0, 0, 0xf8, 0xff}},
		{truth(true), nil, []byte{0, 2, 0, 0, 0, 0, 0, 0xf8, 0xff}},
		{whole(0), nil, []byte{0, 0, 0, 0, 0, 0, 0, 0xf9, 0xff}},
		{whole(-1), nil, []byte{0, 0xff, 0xff, 0xff, 0xff, 0xff, 0xff, 0xf9, 0xff}},
		{whole(1<<47 - 1), nil, []byte{0, 0xff, 0xff, 0xff, 0xff, 0xff, 0x7f, 0xf9, 0xff}},
		{whole(1 << 47), [][]byte{{api.Int, 0, 0, 0, 0, 0, 0x80, 0, 0}}, []byte{1, 0}},
		{whole(-1<<47 - 1), [][]byte{{api.Int, 0xff, 0xff, 0xff, 0xff, 0xff, 0x7f, 0xff, 0xff}}, []byte{1, 0}},
		{whole(math.MaxInt64), [][]byte{{api.Int, 0xff, 0xff, 0xff, 0xff, 0xff, 0xff, 0xff, 0x7f}}, []byte{1, 0}},
		{whole(math.MinInt64), [][]byte{{api.Int, 0, 0, 0, 0, 0, 0, 0, 0x80}}, []byte{1, 0}},
		{whole(0x0102030405060708), [][]byte{{api.Int, 8, 7, 6, 5, 4, 3, 2, 1}}, []byte{1, 0}},
		{double(0), nil, []byte{0, 0, 0, 0, 0, 0, 0, 0, 0}},
		{double(0x0102030405060708), nil, []byte{0, 8, 7, 6, 5, 4, 3, 2, 1}},
		{double(0x8000000000000000), nil, []byte{0, 0, 0, 0, 0, 0, 0, 0, 0x80}},
		{double(0xfff0000000000000), nil, []byte{0, 0, 0, 0, 0, 0, 0, 0xf0, 0xff}},
		{double(0xfff8000000000001), nil, []byte{0, 0, 0, 0, 0, 0, 0, 0xf8, 0x7f}}, // any NaN is the canonical one
		{text(""), nil, []byte{0, 0, 0, 0, 0, 0, 0, 0xfa, 0xff}},
		{text("hello"), nil, []byte{0, 'h', 'e', 'l', 'l', 'o', 5, 0xfa, 0xff}},
		{text("hello!"), [][]byte{{api.Text, 6, 'h', 'e', 'l', 'l', 'o', '!'}}, []byte{1, 0}},
		{text("\x00\xff\x80\n\"\x00"), [][]byte{{api.Text, 6, 0, 255, 128, '\n', '"', 0}}, []byte{1, 0}},
		{text(filler(127)), [][]byte{textCell(filler(127))}, []byte{1, 0}},
		{text(filler(128)), [][]byte{slices.Concat([]byte{api.Text, 128, 1}, []byte(filler(128)))}, []byte{1, 0}},
	} {
		p := play(t, src, 99)
		p.set("g", x.r)
		want := parts{src: src, units: 99, cells: x.cells, globals: [][]byte{x.word}}
		wantSave(t, p.Machine, want.bytes())
		if r, e := load(t, want.bytes()).Global("g"); e != api.OK || r.Kind != x.r.Kind || r.Int != x.r.Int || r.Text != x.r.Text || r.Bits != word.FromFloat(x.r.Bits) {
			t.Errorf("the global is %s; want %s", short(r), short(x.r))
		}
	}
}

// Things of each kind, of no elements, of some, and as many as need more than one byte for their number.
func TestSaveOfThings(t *testing.T) {
	for kind, name := range map[int]string{api.U8: "u8_", api.I16: "i16_", api.F32: "f32_", api.F64: "f64_", api.Row: "row_"} {
		for _, n := range []int64{0, 1, 3, 127, 128, 200} {
			p := play(t, maker, plenty)
			p.set("b", p.run(name, whole(n)))
			var cell []byte
			if kind == api.Row {
				cell = rowCell(slices.Repeat([][]byte{nilWord()}, int(n))...)
			} else {
				cell = bufCell(kind, make([]byte, map[int]int64{api.U8: 1, api.I16: 2, api.F32: 4, api.F64: 8}[kind]*n)...)
			}
			want := parts{src: maker, units: plenty, cells: [][]byte{cell}, globals: [][]byte{nilWord(), to(0), nilWord()}, next: 1, held: [][]byte{held(0, to(0))}, sites: makerSites()}
			wantSave(t, p.Machine, want.bytes())
		}
	}
}

// What was written into things.
func TestSaveOfElements(t *testing.T) {
	p := play(t, maker, plenty)
	u, i, f, d, r := p.run("u8_", whole(3)), p.run("i16_", whole(2)), p.run("f32_", whole(2)), p.run("f64_", whole(2)), p.run("row_", whole(7))
	p.poke(u, 0, whole(255))
	p.poke(u, 2, whole(1))
	p.poke(i, 1, whole(-2))
	p.poke(f, 0, double(one))
	p.poke(d, 1, double(0xfff8000000000000))
	for at, x := range []api.Raw{whole(1), double(half), text("ab"), text("abcdef"), truth(true), whole(1 << 60)} {
		p.poke(r, int64(at), x)
	}
	want := parts{src: maker, units: plenty, globals: [][]byte{nilWord(), nilWord(), nilWord()}, next: 5, sites: makerSites()}
	want.cells = [][]byte{
		bufCell(api.U8, 255, 0, 1), bufCell(api.I16, 0, 0, 254, 255), bufCell(api.F32, 0, 0, 128, 63, 0, 0, 0, 0),
		bufCell(api.F64, 0, 0, 0, 0, 0, 0, 0, 0, 0, 0, 0, 0, 0, 0, 0xf8, 0x7f),
		rowCell(small(1), itself(half), tiny("ab"), to(5), itself(word.FromBool(true)), to(6), nilWord()),
		textCell("abcdef"), intCell(1 << 60),
	}
	for ref := range uint64(5) {
		want.held = append(want.held, held(ref, to(ref)))
	}
	wantSave(t, p.Machine, want.bytes())
}

// Views come ahead of their buffer, if that is come to through them; a view of a view is one of the buffer.
func TestSaveOfViews(t *testing.T) {
	p := play(t, maker, plenty)
	buffer := p.run("u8_", whole(32))
	first := p.run("view_", buffer, text("i16"), whole(2), whole(15))
	second := p.run("view_", first, text("f64"), whole(6), whole(3))
	third := p.run("view_", second, text("f32"), whole(4), whole(0))
	p.poke(first, 0, whole(-1))
	p.set("a", second)
	p.set("c", third)
	want := parts{src: maker, units: plenty, globals: [][]byte{to(0), nilWord(), to(2)}, next: 4, sites: makerSites()}
	b := make([]byte, 32)
	b[2], b[3] = 255, 255
	want.cells = [][]byte{viewCell(api.F64, 1, 8, 3), bufCell(api.U8, b...), viewCell(api.F32, 1, 12, 0), viewCell(api.I16, 1, 2, 15)}
	want.held = [][]byte{held(0, to(1)), held(1, to(3)), held(2, to(0)), held(3, to(2))}
	wantSave(t, p.Machine, want.bytes())

	p.release(buffer, first, second, third)
	want.cells, want.held = want.cells[:3], nil
	wantSave(t, p.Machine, want.bytes())
	for kind, name := range map[int]string{api.U8: "u8", api.I16: "i16", api.F32: "f32", api.F64: "f64"} {
		p := play(t, maker, plenty)
		view := p.run("view_", p.run("f64_", whole(20)), text(name), whole(16), whole(18))
		p.set("a", view)
		want := parts{src: maker, units: plenty, globals: [][]byte{to(0), nilWord(), nilWord()}, next: 2, sites: makerSites()}
		want.cells = [][]byte{viewCell(kind, 1, 16, 18), bufCell(api.F64, make([]byte, 160)...)}
		want.held = [][]byte{held(0, to(1)), held(1, to(0))}
		wantSave(t, p.Machine, want.bytes())
	}
}

// What is swept, or is reached no more, is not written.
func TestSaveOfLeftovers(t *testing.T) {
	p := play(t, maker, 60)
	want := parts{src: maker, units: 60, globals: [][]byte{nilWord(), nilWord(), nilWord()}, sites: makerSites()}
	for range 9 {
		thing := p.run("row_", whole(9))
		p.poke(thing, 0, text("a string in a cell"))
		p.poke(thing, 0, null)
		p.set("a", thing)
		p.set("b", text("abcdefg"))
		p.set("a", null)
		p.set("b", whole(1<<50))
		p.set("b", null)
		p.release(thing)
		want.next++
		wantSave(t, p.Machine, want.bytes())
	}
}

// Released things, and the least number that was never given behind them.
func TestSaveOfNumbers(t *testing.T) {
	p := play(t, maker, plenty)
	want := parts{src: maker, units: plenty, globals: [][]byte{nilWord(), nilWord(), nilWord()}, sites: makerSites()}
	for ref := range uint64(131) {
		thing := p.run("row_", whole(0))
		if ref%3 != 0 && ref < 127 {
			p.release(thing)
			continue
		}
		want.held = append(want.held, held(ref, to(uint64(len(want.cells)))))
		want.cells = append(want.cells, rowCell())
	}
	want.next = 131
	wantSave(t, p.Machine, want.bytes())
	for ref := range 131 {
		p.Release(ref)
	}
	want.cells, want.held = nil, nil
	wantSave(t, p.Machine, want.bytes())
	if r := p.run("row_", whole(1)); r.Ref != 131 {
		t.Errorf("the next number is %d", r.Ref)
	}
}

// A global that goes out gets a number, and is written as held from there on; Save gives none.
func TestSaveGivesNoNumber(t *testing.T) {
	src := "let g; fn f() { g = row(2); }"
	p := play(t, src, 9)
	p.run("f")
	want := parts{src: src, units: 9, cells: [][]byte{rowCell(nilWord(), nilWord())}, globals: [][]byte{to(0)}}
	for range 3 {
		wantSave(t, p.Machine, want.bytes())
	}
	if r, _ := p.Global("g"); r.Ref != 0 {
		t.Error(r)
	}
	want.next, want.held = 1, [][]byte{held(0, to(0))}
	wantSave(t, p.Machine, want.bytes())
}
