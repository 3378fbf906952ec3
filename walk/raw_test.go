package walk_test

import (
	"math"
	"testing"

	"casket/api"
	"casket/walk"
)

// Promise 15.3.

const holders = `
let g;
fn same(a) { return a; }
fn f64s() { return f64(3); }
fn f32s() { return f32(4); }
fn i16s() { return i16(5); }
fn u8s() { return u8(6); }
fn rows() { return row(7); }
fn views() { return view(u8(9), "i16", 2, 3); }
fn f(a, b) { return b; }
`

// wantIn hands a raw value in on each way, and takes it out again.
func wantIn(t *testing.T, m *walk.Machine, row int, in, out api.Raw) {
	t.Helper()
	if got := value(t, m, "same", in); got != out {
		t.Errorf("%s goes out of a run as %s; want %s", short(in), short(got), short(out))
	}
	wantSet(t, m, "g", in, api.OK)
	wantGlobal(t, m, "g", out)
	wantPoke(t, m, row, 0, in, api.OK)
	wantPeek(t, m, row, 0, out)
	start(t, m, "same", 9, in)
	m.Step()
	seen := out
	seen.Ref = 0
	if s, ok := m.State(); !ok || len(s.Vars) != 1 || s.Vars[0] != seen {
		t.Errorf("%s is seen as %s; want %s", short(in), short(s.Vars), short(seen))
	}
	for m.Step() {
	}
}

// wantNotIn hands a raw value in on each way, where it is refused.
func wantNotIn(t *testing.T, m *walk.Machine, row int, in api.Raw, want api.Errno) {
	t.Helper()
	wantNoStart(t, m, "same", raws(in), 9, want)
	wantNoStart(t, m, "f", raws(null, in), 9, want)
	wantSet(t, m, "g", in, want)
	wantPoke(t, m, row, 0, in, want)
}

// held is a machine with a row, by the number 0, and one thing of each kind.
func held(t *testing.T, units int) (*walk.Machine, []api.Raw) {
	t.Helper()
	m := load(t, holders, units)
	var list []api.Raw
	for ref, x := range []struct {
		name    string
		kind, n int
	}{{"rows", api.Row, 7}, {"f64s", api.F64, 3}, {"f32s", api.F32, 4}, {"i16s", api.I16, 5}, {"u8s", api.U8, 6}, {"views", api.I16, 3}} {
		got := value(t, m, x.name)
		if got != thing(x.kind, ref, x.n) {
			t.Fatalf("%s: %v", x.name, got)
		}
		list = append(list, got)
	}
	return m, list
}

func TestRawOfEachKind(t *testing.T) {
	m, things := held(t, plenty)
	for _, r := range things {
		wantIn(t, m, 0, r, r)
	}
	for _, i := range []int64{0, 1, -1, 5, 1<<47 - 1, 1 << 47, -1 << 47, -1<<47 - 1, math.MaxInt64, math.MinInt64} {
		wantIn(t, m, 0, whole(i), whole(i))
	}
	for _, s := range []string{"", "a", "hello", "hello!", "\x00\xff\n\"", filler(1000)} {
		wantIn(t, m, 0, text(s), text(s))
	}
	wantIn(t, m, 0, null, null)
	wantIn(t, m, 0, truth(false), truth(false))
	wantIn(t, m, 0, truth(true), truth(true))
}

// The Bits of a Float are any: what is a NaN is the one that there is.
func TestRawFloats(t *testing.T) {
	m, _ := held(t, plenty)
	for _, bits := range []uint64{0, 1 << 63, 1, 0x3ff0000000000000, 0x7fefffffffffffff, 0x7ff0000000000000, 0xfff0000000000000, api.Canon} {
		wantIn(t, m, 0, double(bits), double(bits))
	}
	list := []uint64{0x7ff0000000000001, 0x7ff8000000000001, 0x7fffffffffffffff, 0xfff0000000000001, 0xfff8000000000000, 0xfff8000000000001, 0xfff9000000000005, 0xfffa000000000000, 0xfffb000000000000, 0xffffffffffffffff}
	for bit := range 52 {
		list = append(list, 0x7ff0000000000000|1<<bit, 0xfff0000000000000|1<<bit)
	}
	for _, bits := range list {
		wantIn(t, m, 0, double(bits), double(api.Canon))
	}
}

// Len is not looked at.
func TestRawLen(t *testing.T) {
	m, things := held(t, plenty)
	for _, r := range append(things, null, truth(true), whole(7), double(0), text("abcdefgh")) {
		for _, n := range []int{math.MinInt, -1, 0, 1, 77, math.MaxInt} {
			in := r
			in.Len = n
			wantIn(t, m, 0, in, r)
		}
	}
}

func TestRawErrArg(t *testing.T) {
	m, things := held(t, plenty)
	for _, kind := range []int{math.MinInt, -1, api.Row + 1, 99, 1 << 32, math.MaxInt} {
		wantNotIn(t, m, 0, api.Raw{Kind: kind}, api.ErrArg)
	}
	for _, i := range []int64{math.MinInt64, -1, 2, 1 << 32, 1<<32 + 1, math.MaxInt64} {
		wantNotIn(t, m, 0, api.Raw{Kind: api.Bool, Int: i}, api.ErrArg)
	}
	rights := append(things, null, truth(false), truth(true), whole(0), whole(1<<50), double(0), double(api.Canon), text(""), text("abcdefgh"))
	for _, r := range rights {
		for field := range 4 {
			if named(r.Kind) == field {
				continue
			}
			wrong := r
			switch field {
			case 0:
				wrong.Int = 1
			case 1:
				wrong.Bits = 1 << 63
			case 2:
				wrong.Text = "x"
			case 3:
				wrong.Ref = 1
			}
			wantNotIn(t, m, 0, wrong, api.ErrArg)
		}
	}
	wantNotIn(t, m, 0, api.Raw{Kind: api.Text, Text: "a", Ref: -1}, api.ErrArg)
	wantNotIn(t, m, 0, api.Raw{Ref: math.MaxInt}, api.ErrArg)
}

// named is which field a kind names: Int, Bits, Text, Ref.
func named(kind int) int {
	switch kind {
	case api.Nil:
		return -1
	case api.Bool, api.Int:
		return 0
	case api.Float:
		return 1
	case api.Text:
		return 2
	}
	return 3
}

func TestRawErrRef(t *testing.T) {
	m, things := held(t, plenty)
	for _, r := range things {
		for _, kind := range []int{api.F64, api.F32, api.I16, api.U8, api.Row} {
			if kind != r.Kind {
				wantNotIn(t, m, 0, api.Raw{Kind: kind, Ref: r.Ref, Len: r.Len}, api.ErrRef)
			}
		}
		for _, ref := range append(nobodys, len(things)) {
			wantNotIn(t, m, 0, api.Raw{Kind: r.Kind, Ref: ref}, api.ErrRef)
		}
	}
	wantRelease(t, m, 1, api.OK)
	wantNotIn(t, m, 0, things[1], api.ErrRef)
}

func TestRawErrLong(t *testing.T) {
	m := load(t, holders, api.MaxUnits)
	value(t, m, "rows")
	wantNotIn(t, m, 0, text(filler(api.MaxBytes+1)), api.ErrLong)
	wantNotIn(t, m, 0, text(filler(api.MaxBytes+9)), api.ErrLong)
	// So many bytes are right, but no heap has so many units, and one for the cell.
	wantNotIn(t, m, 0, text(filler(api.MaxBytes)), api.ErrMemory)
	wantNotIn(t, m, 0, text(filler((api.MaxUnits-9)*8+1)), api.ErrMemory)
	longest := text(filler((api.MaxUnits - 9) * 8)) // the row has 8 units
	wantSet(t, m, "g", longest, api.OK)
	wantGlobal(t, m, "g", longest)
	wantReach(t, m, api.MaxUnits)
}

// Each reason for a refusal goes ahead of the next one.
func TestRawErrorsInOrder(t *testing.T) {
	m := load(t, holders, 10)
	value(t, m, "rows")
	long := filler(api.MaxBytes + 1)
	wantNotIn(t, m, 0, api.Raw{Kind: api.Text, Text: long, Int: 1}, api.ErrArg)
	wantNotIn(t, m, 0, api.Raw{Kind: api.Text, Text: long, Ref: 7}, api.ErrArg)
	wantNotIn(t, m, 0, api.Raw{Kind: 99, Text: long, Ref: 7}, api.ErrArg)
	wantNotIn(t, m, 0, api.Raw{Kind: api.Row, Text: long, Ref: 7}, api.ErrArg)
	wantNotIn(t, m, 0, api.Raw{Kind: api.Row, Bits: 1, Ref: 7}, api.ErrArg)
	wantNotIn(t, m, 0, text(long), api.ErrLong) // ahead of ErrMemory
	wantNotIn(t, m, 0, text(filler(17)), api.ErrMemory)
	wantIn(t, m, 0, text("hello"), text("hello"))
}
