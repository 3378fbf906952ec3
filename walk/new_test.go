package walk_test

import (
	"math"
	"strings"
	"testing"

	"casket/api"
	"casket/check"
	"casket/walk"
)

// Promise 15.1.

func wantNoMachine(t *testing.T, src string, units int, want api.Fault) {
	t.Helper()
	if m, fault := walk.New(src, units); m != nil || fault != want {
		t.Errorf("New(%.90q, %d): %v, %v; want %v", src, units, m, fault, want)
	}
}

func TestNewUnits(t *testing.T) {
	for _, units := range []int{0, 1, 2, 63, 1000, api.MaxUnits - 1, api.MaxUnits} {
		m := load(t, "fn f() { }", units)
		wantReach(t, m, 0)
	}
	for _, units := range []int{math.MinInt, -1 << 32, -api.MaxUnits, -1, api.MaxUnits + 1, 1 << 32, 1<<32 + 1, math.MaxInt} {
		wantNoMachine(t, "fn f() { }", units, api.Fault{Code: api.ErrArg})
		wantNoMachine(t, "", units, api.Fault{Code: api.ErrArg})
	}
}

// The heap has so many units as was said, and no more.
func TestNewRoom(t *testing.T) {
	for _, units := range []int{0, 1, 2, 9, 100, api.MaxUnits} {
		m := load(t, "fn f(n) { return len(row(n)); }", units)
		if units > 0 {
			if got := value(t, m, "f", whole(int64(units-1))); got != whole(int64(units-1)) {
				t.Errorf("%d units: %v", units, got)
			}
		}
		if end := run(t, m, "f", whole(int64(units))); end.Code != api.ErrMemory {
			t.Errorf("%d units: a row of so many words: %v", units, end)
		}
	}
}

// A source for each fault: of tokens, of the grammar, of what a tree must keep to.
var faulty = []struct {
	src  string // its mark is where
	code api.Errno
}{
	{filler(api.MaxSource + 1), api.ErrLong},
	{"fn f() { @! }", api.ErrByte},
	{"fn f() { return @\"a; }", api.ErrString},
	{"fn f() { return @007; }", api.ErrNumber},
	{"fn @" + filler(api.MaxName+1) + "() { }", api.ErrName},
	{"fn@", api.ErrSyntax},
	{"fn f() { 1 @= 2; }", api.ErrSyntax},
	{"fn f() { return " + strings.Repeat("(", api.MaxNest-1) + "@(1", api.ErrNest},
	{"fn f() { return " + strings.Repeat("-", 4*api.MaxNest-3) + "@1; }", api.ErrNest},
	{"let g; let @g;", api.ErrTwice},
	{"fn f(a) { @f(); }", api.ErrCount},
	{"fn f() { @x; }", api.ErrName},
	{"fn f() { @break; }", api.ErrLoop},
	{"fn f() { @while true { " + strings.Repeat("nil;", 500) + " } }", api.ErrSpan},
	{"fn @f() { " + many(api.MaxConsts+1, "#;") + " }", api.ErrConsts},
	{"fn @f() { " + many(api.MaxRegs+1, "let v# = nil;") + " }", api.ErrRegs},
}

func TestNewFaults(t *testing.T) {
	for _, x := range faulty {
		src, at := parted(x.src)
		want := api.Fault{Code: x.code, At: at}
		if _, fault := check.Load(src); fault != want {
			t.Errorf("Load(%.90q): %v; want %v", src, fault, want)
		}
		for _, units := range []int{0, 5, api.MaxUnits} {
			wantNoMachine(t, src, units, want)
		}
		for _, units := range []int{-1, api.MaxUnits + 1} {
			wantNoMachine(t, src, units, api.Fault{Code: api.ErrArg})
		}
	}
}

func TestNewMachine(t *testing.T) {
	m := load(t, "let g; fn f() { } let h; let last;", 9)
	for _, name := range []string{"g", "h", "last"} {
		wantGlobal(t, m, name, null)
	}
	wantReach(t, m, 0)
	wantNoEnd(t, m)
	wantIdle(t, m)
	wantNoPeek(t, m, 0, 0, api.ErrRef)
}

// No source at all is one.
func TestNewOfNothing(t *testing.T) {
	for _, src := range []string{"", " # nothing", "let g;"} {
		m := load(t, src, 0)
		wantNoStart(t, m, "f", nil, 0, api.ErrFunc)
		wantNoStart(t, m, "", nil, 0, api.ErrFunc)
		wantNoEnd(t, m)
		wantIdle(t, m)
	}
}

// A machine that New has not made has no source and no units.
func TestNotNew(t *testing.T) {
	m := new(walk.Machine)
	wantNoStart(t, m, "f", nil, 9, api.ErrFunc)
	wantNoGlobal(t, m, "g", api.ErrName)
	wantSet(t, m, "g", null, api.ErrName)
	wantNoPeek(t, m, 0, 0, api.ErrRef)
	wantPoke(t, m, 0, 0, null, api.ErrRef)
	wantRelease(t, m, 0, api.ErrRef)
	wantReach(t, m, 0)
	wantNoEnd(t, m)
	wantIdle(t, m)
}
