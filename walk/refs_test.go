package walk_test

import (
	"math"
	"testing"

	"casket/api"
)

// Promise 15.2.

const makers = `
let g;
fn mk() { return row(2); }
fn u() { return u8(5); }
fn same(a) { return a; }
fn keep(a) { g = a; }
fn kept() { return g; }
fn spare() { let a = row(1); let b = u8(3); a[0] = b; let c = view(b, "u8", 1, 2); return len(a) + len(c); }
fn inner() { let a = row(1); a[0] = row(3); return a; }
fn two() { let b = u8(8); let r = row(2); r[0] = b; r[1] = view(b, "u8", 0, 8); return r; }
fn late() { let a = row(1); out 1; return 1 // 0; }
`

// nobodys are numbers that no machine of these tests has given.
var nobodys = []int{math.MinInt, -1 << 32, -1, 1 << 31, 1 << 32, math.MaxInt}

func TestNumbersRise(t *testing.T) {
	m := load(t, makers, plenty)
	for ref := range 20 {
		if ref%2 == 0 {
			if got := value(t, m, "mk"); got != thing(api.Row, ref, 2) {
				t.Errorf("%d: %v", ref, got)
			}
		} else if got := value(t, m, "u"); got != thing(api.U8, ref, 5) {
			t.Errorf("%d: %v", ref, got)
		}
	}
}

// A thing that is held goes out with its number, whichever way.
func TestNumberStays(t *testing.T) {
	m := load(t, makers, plenty)
	a, b := value(t, m, "mk"), value(t, m, "mk")
	if a.Ref != 0 || b.Ref != 1 {
		t.Fatal(a, b)
	}
	for range 3 {
		if got := value(t, m, "same", b); got != b {
			t.Errorf("as a value: %v", got)
		}
		wantSet(t, m, "g", b, api.OK)
		wantGlobal(t, m, "g", b)
		if got := value(t, m, "kept"); got != b {
			t.Errorf("by a global: %v", got)
		}
		wantPoke(t, m, a.Ref, 0, b, api.OK)
		wantPeek(t, m, a.Ref, 0, b)
		wantPoke(t, m, a.Ref, 1, a, api.OK)
		wantPeek(t, m, a.Ref, 1, a)
	}
	if got := value(t, m, "mk"); got.Ref != 2 {
		t.Errorf("a new one: %v", got)
	}
}

// What a run makes and does not answer has no number, and is not held.
func TestNumbersOfWhatGoesOut(t *testing.T) {
	m := load(t, makers, plenty)
	value(t, m, "spare")
	if end := run(t, m, "late"); end.Code != api.ErrDivZero {
		t.Fatal(end)
	}
	start(t, m, "late", 9)
	for s := range m.Steps() {
		for _, r := range s.Vars {
			if r.Ref != 0 {
				t.Errorf("a number in a state: %v", r)
			}
		}
	}
	wantReach(t, m, 0)
	for _, ref := range []int{0, 1, 2} {
		wantRelease(t, m, ref, api.ErrRef)
	}
	outer := value(t, m, "inner")
	if outer != thing(api.Row, 0, 1) {
		t.Errorf("the first that goes out: %v", outer)
	}
	wantRelease(t, m, 1, api.ErrRef) // what is in it has not gone out
	wantReach(t, m, 2+4)
	wantPeek(t, m, 0, 0, thing(api.Row, 1, 3))
	if got := value(t, m, "same", text("0123456789")); got != text("0123456789") {
		t.Error(got)
	}
	if got := value(t, m, "same", whole(math.MinInt64)); got != whole(math.MinInt64) {
		t.Error(got)
	}
	if got := value(t, m, "mk"); got.Ref != 2 {
		t.Errorf("strings and numbers have no number: %v", got)
	}
}

// A global's thing gets its number when it is asked for.
func TestNumberOfGlobal(t *testing.T) {
	m := load(t, "let g; fn f() { g = row(1); g[0] = g; return nil; } fn mk() { return u8(1); }", plenty)
	value(t, m, "f")
	if got := value(t, m, "mk"); got.Ref != 0 {
		t.Error(got)
	}
	wantGlobal(t, m, "g", thing(api.Row, 1, 1))
	wantPeek(t, m, 1, 0, thing(api.Row, 1, 1))
}

// A buffer, and each view of it, is a thing of its own.
func TestNumbersOfViews(t *testing.T) {
	m := load(t, makers, plenty)
	value(t, m, "two")
	wantPeek(t, m, 0, 1, thing(api.U8, 1, 8))
	wantPeek(t, m, 0, 0, thing(api.U8, 2, 8))
	wantPeek(t, m, 0, 1, thing(api.U8, 1, 8))
	wantPoke(t, m, 1, 3, whole(7), api.OK)
	wantPeek(t, m, 2, 3, whole(7))
}

func TestReleased(t *testing.T) {
	m := load(t, makers, plenty)
	a, b := value(t, m, "mk"), value(t, m, "u")
	wantSet(t, m, "g", a, api.OK)
	wantReach(t, m, 3+2)
	wantRelease(t, m, 0, api.OK)
	wantRelease(t, m, 0, api.ErrRef)
	wantNoPeek(t, m, 0, 0, api.ErrRef)
	wantPoke(t, m, 0, 0, null, api.ErrRef)
	wantNoStart(t, m, "same", raws(a), 9, api.ErrRef)
	wantReach(t, m, 3+2) // the global has it still
	wantGlobal(t, m, "g", thing(api.Row, 2, 2))
	wantRelease(t, m, 0, api.ErrRef)
	wantPeek(t, m, 1, 0, whole(0))
	wantSet(t, m, "g", null, api.OK)
	wantReach(t, m, 3+2)
	wantRelease(t, m, 2, api.OK)
	wantReach(t, m, 2)
	wantRelease(t, m, b.Ref, api.OK)
	wantReach(t, m, 0)
	for ref := range 4 {
		wantRelease(t, m, ref, api.ErrRef)
	}
	if got := value(t, m, "mk"); got.Ref != 3 {
		t.Errorf("a number is given once: %v", got)
	}
}

// The room of a thing that is let go is another one's: that has a number of its own.
func TestNumberOfSamePlace(t *testing.T) {
	m := load(t, makers, 3)
	for ref := range 5 {
		if got := value(t, m, "mk"); got != thing(api.Row, ref, 2) {
			t.Errorf("%d: %v", ref, got)
		}
		if end := run(t, m, "mk"); end.Code != api.ErrMemory {
			t.Errorf("%d is held: %v", ref, end)
		}
		wantRelease(t, m, ref, api.OK)
	}
}

// Things are let go in any order, and the others stay what they are.
func TestReleasedInAnyOrder(t *testing.T) {
	m := load(t, "fn mk(n) { return row(n); }", plenty)
	const n = 12
	for ref := range n {
		if got := value(t, m, "mk", whole(int64(ref))); got != thing(api.Row, ref, ref) {
			t.Fatal(got)
		}
	}
	gone := map[int]int{}
	for _, ref := range []int{5, 0, 11, 6, 1, 10, 3, 8, 2, 9, 4, 7} {
		wantRelease(t, m, ref, api.OK)
		gone[ref]++
		units := 0
		for other := range n {
			if gone[other] > 0 {
				wantNoPeek(t, m, other, 0, api.ErrRef)
				continue
			}
			wantNoPeek(t, m, other, int64(other), api.ErrIndex)
			units += 1 + other
		}
		wantReach(t, m, units)
	}
}

func TestReleaseOfNone(t *testing.T) {
	m := load(t, makers, plenty)
	for _, ref := range append(nobodys, 0, 1) {
		wantRelease(t, m, ref, api.ErrRef)
	}
	value(t, m, "mk")
	for _, ref := range append(nobodys, 1) {
		wantRelease(t, m, ref, api.ErrRef)
	}
	start(t, m, "mk", 9)
	for _, ref := range append(nobodys, 0, 1) {
		wantRelease(t, m, ref, api.ErrState)
	}
	for m.Step() {
		wantRelease(t, m, 0, api.ErrState)
	}
	wantRelease(t, m, 0, api.OK)
	wantRelease(t, m, 1, api.OK)
}
