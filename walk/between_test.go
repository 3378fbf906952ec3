package walk_test

import (
	"math"
	"testing"

	"casket/api"
)

// Promise 15.5.

const things = `
let g;
let h;
fn rows(n) { return row(n); }
fn f64s(n) { return f64(n); }
fn f32s(n) { return f32(n); }
fn i16s(n) { return i16(n); }
fn u8s(n) { return u8(n); }
fn set(x) { g = x; let h = 5; h = 6; }
fn slow() { let g = 1; nil; nil; }
`

// outside are indices that no thing of these tests has.
var outside = []int64{math.MinInt64, -1 << 32, -1, 3, 4, 1 << 32, 1<<32 + 1, math.MaxInt64}

func TestGlobals(t *testing.T) {
	m := load(t, things, plenty)
	wantGlobal(t, m, "g", null)
	value(t, m, "set", whole(1<<50))
	wantGlobal(t, m, "g", whole(1<<50))
	wantGlobal(t, m, "h", null) // a variable of that name is another one
	wantSet(t, m, "h", text("hello, h"), api.OK)
	wantGlobal(t, m, "h", text("hello, h"))
	wantGlobal(t, m, "g", whole(1<<50))
	value(t, m, "slow")
	wantGlobal(t, m, "g", whole(1<<50))
	wantSet(t, m, "g", null, api.OK)
	wantGlobal(t, m, "g", null)
}

// A global that was set is what a function meets.
func TestGlobalSetAheadOfRun(t *testing.T) {
	m := load(t, "let g; let sum; fn f() { sum = sum + g; return sum; }", plenty)
	wantSet(t, m, "sum", whole(0), api.OK)
	for i := range int64(5) {
		wantSet(t, m, "g", whole(i), api.OK)
		if got := value(t, m, "f"); got != whole(i*(i+1)/2) {
			t.Errorf("%d: %v", i, got)
		}
	}
	wantGlobal(t, m, "sum", whole(10))
}

func TestGlobalsOfNoName(t *testing.T) {
	m := load(t, things, plenty)
	for _, name := range []string{"", "x", "n", "set", "rows", "row", "len", "G", "g ", "let", filler(99)} {
		wantNoGlobal(t, m, name, api.ErrName)
		wantSet(t, m, name, null, api.ErrName)
		wantSet(t, m, name, api.Raw{Kind: 99}, api.ErrName) // ahead of a refusal
	}
	wantGlobal(t, m, "g", null)
}

// What is refused changes nothing.
func TestGlobalRefused(t *testing.T) {
	m := load(t, things, 4)
	wantSet(t, m, "g", text("abcdefgh"), api.OK)
	wantSet(t, m, "g", api.Raw{Kind: 99}, api.ErrArg)
	wantSet(t, m, "g", text(filler(api.MaxBytes+1)), api.ErrLong)
	wantSet(t, m, "g", thing(api.Row, 0, 1), api.ErrRef)
	wantSet(t, m, "g", text(filler(17)), api.ErrMemory)
	wantSet(t, m, "h", text(filler(9)), api.ErrMemory)
	wantGlobal(t, m, "g", text("abcdefgh"))
	wantGlobal(t, m, "h", null)
	wantSet(t, m, "g", whole(1<<50), api.OK)
	wantGlobal(t, m, "g", whole(1<<50))
}

func TestElementsOfRows(t *testing.T) {
	m := load(t, things, plenty)
	value(t, m, "rows", whole(3))
	for i := range int64(3) {
		wantPeek(t, m, 0, i, null)
	}
	list := raws(null, truth(true), whole(-1), whole(1<<60), double(0xfff0000000000000), text("a"), text("a string"), thing(api.Row, 0, 3))
	for _, r := range list {
		wantPoke(t, m, 0, 1, r, api.OK)
		wantPeek(t, m, 0, 0, null)
		wantPeek(t, m, 0, 1, r)
		wantPeek(t, m, 0, 2, null)
	}
}

func TestElementsOfBuffers(t *testing.T) {
	m := load(t, things, plenty)
	for _, name := range []string{"f64s", "f32s", "i16s", "u8s"} {
		value(t, m, name, whole(3))
	}
	wantPeek(t, m, 0, 2, double(0))
	wantPeek(t, m, 1, 2, double(0))
	wantPeek(t, m, 2, 2, whole(0))
	wantPeek(t, m, 3, 2, whole(0))
	wantPoke(t, m, 0, 1, double(0x3ff0000000000001), api.OK)
	wantPeek(t, m, 0, 1, double(0x3ff0000000000001))
	wantPoke(t, m, 0, 1, double(0xfff8000000000001), api.OK)
	wantPeek(t, m, 0, 1, double(api.Canon))
	wantPoke(t, m, 0, 1, whole(3), api.OK)
	wantPeek(t, m, 0, 1, double(0x4008000000000000))
	wantPoke(t, m, 1, 1, double(0x3ff0000000000001), api.OK)
	wantPeek(t, m, 1, 1, double(0x3ff0000000000000))
	wantPoke(t, m, 2, 1, whole(-32768), api.OK)
	wantPeek(t, m, 2, 1, whole(-32768))
	wantPoke(t, m, 3, 1, whole(255), api.OK)
	wantPeek(t, m, 3, 1, whole(255))
	for ref, wrong := range []struct {
		r api.Raw
		e api.Errno
	}{{text("1"), api.ErrType}, {truth(true), api.ErrType}, {whole(32768), api.ErrRange}, {whole(-1), api.ErrRange}} {
		was, _ := m.Peek(ref, 1)
		wantPoke(t, m, ref, 1, wrong.r, wrong.e)
		wantPoke(t, m, ref, 1, null, api.ErrType)
		wantPoke(t, m, ref, 1, thing(api.F64, 0, 3), api.ErrType)
		wantPeek(t, m, ref, 1, was)
	}
	wantPoke(t, m, 3, 1, double(0x3ff0000000000000), api.ErrType)
}

func TestElementsOutside(t *testing.T) {
	m := load(t, things, plenty)
	for ref, name := range []string{"rows", "f64s", "f32s", "i16s", "u8s"} {
		value(t, m, name, whole(3))
		for _, i := range outside {
			wantNoPeek(t, m, ref, i, api.ErrIndex)
			wantPoke(t, m, ref, i, whole(1), api.ErrIndex)
			wantPoke(t, m, ref, i, text("abcdef"), api.ErrIndex) // ahead of ErrType
		}
		for i := range int64(3) {
			if r, e := m.Peek(ref, i); e != api.OK || r.Int != 0 || r.Bits != 0 {
				t.Errorf("%s: %d is %v, %d", name, i, r, e)
			}
		}
	}
}

func TestElementsOfNone(t *testing.T) {
	m := load(t, things, plenty)
	for _, ref := range append(nobodys, 0, 1) {
		wantNoPeek(t, m, ref, 0, api.ErrRef)
		wantNoPeek(t, m, ref, -1, api.ErrRef)
		wantPoke(t, m, ref, 0, null, api.ErrRef)
		wantPoke(t, m, ref, -1, api.Raw{Kind: 99}, api.ErrRef)
	}
}

// A refusal, and ErrMemory, go ahead of what Store says.
func TestPokeErrorsInOrder(t *testing.T) {
	m := load(t, things, 4)
	value(t, m, "u8s", whole(3))
	wantPoke(t, m, 0, 9, api.Raw{Kind: 99}, api.ErrArg)
	wantPoke(t, m, 0, 9, text(filler(api.MaxBytes+1)), api.ErrLong)
	wantPoke(t, m, 0, 9, thing(api.Row, 0, 1), api.ErrRef)
	wantPoke(t, m, 0, 9, text(filler(9)), api.ErrMemory)
	wantPoke(t, m, 0, 9, text(filler(8)), api.ErrIndex)
	wantPoke(t, m, 0, 1, text(filler(8)), api.ErrType)
	wantPoke(t, m, 0, 1, whole(1<<50), api.ErrRange)
	wantPeek(t, m, 0, 1, whole(0))
	wantReach(t, m, 2)
}

// While a run is under way, all of them are refused, ahead of all else; the run does not notice.
func TestNotNow(t *testing.T) {
	m := load(t, things, plenty)
	value(t, m, "rows", whole(3))
	start(t, m, "slow", 9)
	for ok := true; ok; ok = m.Step() {
		was, _ := m.State()
		for _, name := range []string{"g", "h", "x", "slow", ""} {
			wantNoGlobal(t, m, name, api.ErrState)
			wantSet(t, m, name, whole(1), api.ErrState)
			wantSet(t, m, name, api.Raw{Kind: 99}, api.ErrState)
			wantSet(t, m, name, text(filler(api.MaxBytes)), api.ErrState)
		}
		for _, ref := range []int{-1, 0, 1} {
			for _, i := range []int64{-1, 0, 3} {
				wantNoPeek(t, m, ref, i, api.ErrState)
				wantPoke(t, m, ref, i, whole(1), api.ErrState)
				wantPoke(t, m, ref, i, api.Raw{Kind: 99}, api.ErrState)
			}
			wantRelease(t, m, ref, api.ErrState)
		}
		wantReach(t, m, 4)
		if s, _ := m.State(); !sameState(s, was) {
			t.Errorf("%v, then %v", was, s)
		}
	}
	wantEnded(t, m, api.End{Ticks: 4})
	wantGlobal(t, m, "g", null)
	wantPeek(t, m, 0, 0, null)
}
