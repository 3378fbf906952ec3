package image_test

import (
	"bytes"
	"fmt"
	"slices"
	"strings"
	"testing"

	"casket/api"
	"casket/image"
	"casket/vm"
	"casket/word"
)

// Raw values.

var null = api.Raw{}

func whole(i int64) api.Raw { return api.Raw{Kind: api.Int, Int: i} }

func double(bits uint64) api.Raw { return api.Raw{Kind: api.Float, Bits: bits} }

func text(s string) api.Raw { return api.Raw{Kind: api.Text, Text: s} }

func truth(b bool) api.Raw {
	if b {
		return api.Raw{Kind: api.Bool, Int: 1}
	}
	return api.Raw{Kind: api.Bool}
}

// Patterns of some doubles.
const (
	one  = 0x3ff0000000000000
	half = 0x3fe0000000000000
)

// plenty is more than most runs need: units, and fuel.
const plenty = 1000

// filler is a string of n bytes.
func filler(n int) string { return strings.Repeat("x", n) }

// short is what is told of something long.
func short(x any) string {
	told := fmt.Sprint(x)
	if b, ok := x.([]byte); ok {
		told = fmt.Sprintf("%x", b)
	}
	if len(told) > 400 {
		return told[:400] + ".."
	}
	return told
}

// Parts of a machine's bytes, written by the chapter's words, and by nothing of the package.

// num is a Short.
func num(x uint64) []byte {
	var list []byte
	for {
		group := byte(x & 127)
		x >>= 7
		if x == 0 {
			return append(list, group)
		}
		list = append(list, group+128)
	}
}

// eight is an Eight.
func eight(x uint64) []byte {
	return []byte{byte(x), byte(x >> 8), byte(x >> 16), byte(x >> 24), byte(x >> 32), byte(x >> 40), byte(x >> 48), byte(x >> 56)}
}

// itself is a word without a handle.
func itself(w uint64) []byte { return append([]byte{0}, eight(w)...) }

// to is a word with the handle of a cell.
func to(cell uint64) []byte { return append([]byte{1}, num(cell)...) }

// small is the word of a small number.
func small(i int64) []byte {
	w, ok := word.FromInt(i)
	if !ok {
		panic("not small")
	}
	return itself(w)
}

func nilWord() []byte { return itself(word.FromNil()) }

// tiny is the word of a string of up to five bytes.
func tiny(s string) []byte {
	w, ok := word.FromText(s)
	if !ok {
		panic("not tiny")
	}
	return itself(w)
}

// Cells.

func intCell(i int64) []byte { return append([]byte{api.Int}, eight(uint64(i))...) }

func textCell(s string) []byte {
	return slices.Concat([]byte{api.Text}, num(uint64(len(s))), []byte(s))
}

func bufCell(kind int, b ...byte) []byte {
	return slices.Concat([]byte{byte(kind)}, num(uint64(len(b))), b)
}

func viewCell(kind int, base, from, n uint64) []byte {
	return slices.Concat([]byte{byte(32 + kind)}, num(base), num(from), num(n))
}

func rowCell(words ...[]byte) []byte {
	return slices.Concat([]byte{api.Row}, num(uint64(len(words))), slices.Concat(words...))
}

// parts are those of a machine.
type parts struct {
	src     string
	units   uint64
	cells   [][]byte
	globals [][]byte
	next    uint64
	held    [][]byte // of each thing its number and its word
	sites   [][]byte
}

// held is a thing that is held by a number.
func held(ref uint64, w []byte) []byte { return append(num(ref), w...) }

// site is one, with its counts and its row.
func site(form byte, generic, fast, fails uint64, kind byte, length uint64) []byte {
	return slices.Concat([]byte{form}, num(generic), num(fast), num(fails), []byte{kind}, num(length))
}

// head is all that stands ahead of the cells.
func (p parts) head() []byte {
	return slices.Concat([]byte{67}, num(uint64(len(p.src))), []byte(p.src), num(p.units))
}

// upTo is all that stands ahead of the globals.
func (p parts) upToGlobals() []byte {
	return slices.Concat(p.head(), num(uint64(len(p.cells))), slices.Concat(p.cells...))
}

// upToThings is all that stands ahead of the least number that was never given.
func (p parts) upToThings() []byte {
	return slices.Concat(p.upToGlobals(), slices.Concat(p.globals...))
}

// upToSites is all that stands ahead of the sites.
func (p parts) upToSites() []byte {
	return slices.Concat(p.upToThings(), num(p.next), num(uint64(len(p.held))), slices.Concat(p.held...))
}

func (p parts) bytes() []byte { return slices.Concat(p.upToSites(), slices.Concat(p.sites...)) }

// What is asked of the package.

func open(t testing.TB, src string, units int) *vm.Machine {
	t.Helper()
	m, fault := vm.New(src, units)
	if fault.Code != api.OK {
		t.Fatalf("New(%.300q, %d): %v", src, units, fault)
	}
	return m
}

func save(t testing.TB, m *vm.Machine) []byte {
	t.Helper()
	b, e := image.Save(m)
	if e != api.OK {
		t.Fatalf("Save: %d", e)
	}
	return b
}

func load(t testing.TB, b []byte) *vm.Machine {
	t.Helper()
	m, e, at := image.Load(b)
	if m == nil || e != api.OK || at != 0 {
		t.Fatalf("Load(%s): %d at %d", short(b), e, at)
	}
	return m
}

// wantSave looks at a machine's bytes, and whether they lead back to it.
func wantSave(t testing.TB, m *vm.Machine, want []byte) {
	t.Helper()
	if b := save(t, m); !bytes.Equal(b, want) {
		t.Errorf("Save: %s\nwant  %s", short(b), short(want))
		return
	}
	wantTaken(t, want)
}

// wantTaken looks whether bytes are taken, and written the same.
func wantTaken(t testing.TB, b []byte) *vm.Machine {
	t.Helper()
	m := load(t, b)
	if again := save(t, m); !bytes.Equal(again, b) {
		t.Errorf("Save of what was loaded: %s\nwant %s", short(again), short(b))
	}
	return m
}

func wantWrong(t testing.TB, b []byte, code api.Errno, at int) {
	t.Helper()
	m, e, place := image.Load(b)
	if m != nil || e != code || place != at {
		t.Errorf("Load(%s) of %d bytes: %v, %d at %d; want %d at %d", short(b), len(b), m != nil, e, place, code, at)
	}
}

// player does things to a machine that must go well.
type player struct {
	testing.TB
	*vm.Machine
}

// maker is a source that makes things of each kind, and has three globals.
const maker = `let a; let b; let c;
fn row_(n) { return row(n); } fn u8_(n) { return u8(n); } fn i16_(n) { return i16(n); } fn f32_(n) { return f32(n); } fn f64_(n) { return f64(n); }
fn view_(b, k, i, n) { return view(b, k, i, n); }
fn add(x, y) { return x + y; }`

// makerSites are the sites of it, when none was done.
func makerSites() [][]byte { return [][]byte{site(0, 0, 0, 0, 0, 0)} }

func play(t testing.TB, src string, units int) *player { return &player{t, open(t, src, units)} }

// run is the value of a run.
func (p *player) run(name string, args ...api.Raw) api.Raw {
	p.Helper()
	end, e := p.Run(name, args, 1<<30)
	if e != api.OK || end.Code != api.OK {
		p.Fatalf("Run(%s, %s): %s, %d", name, short(args), short(end), e)
	}
	return end.Value
}

func (p *player) set(name string, r api.Raw) {
	p.Helper()
	if e := p.SetGlobal(name, r); e != api.OK {
		p.Fatalf("SetGlobal(%s, %s): %d", name, short(r), e)
	}
}

func (p *player) poke(thing api.Raw, i int64, r api.Raw) {
	p.Helper()
	if e := p.Poke(thing.Ref, i, r); e != api.OK {
		p.Fatalf("Poke(%d, %d, %s): %d", thing.Ref, i, short(r), e)
	}
}

func (p *player) release(things ...api.Raw) {
	p.Helper()
	for _, thing := range things {
		if e := p.Release(thing.Ref); e != api.OK {
			p.Fatalf("Release(%d): %d", thing.Ref, e)
		}
	}
}
