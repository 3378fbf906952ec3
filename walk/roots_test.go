package walk_test

import (
	"slices"
	"testing"

	"casket/api"
)

// Promise 15.4, and W8: what is a root, and what is none.

// tight is a run of f for which so many units are just enough: with one less it is refused memory, at the mark. Of a row of three the cell has 4 units, of a string of eight bytes 2, of a whole number that is not small 2.
type tight struct {
	src   string
	units int
	code  api.Errno // how the run ends with so many
	at    string    // what stands there, if that is an error
}

func wantTight(t *testing.T, list ...tight) {
	t.Helper()
	for _, x := range list {
		src, at := parted(x.src)
		end := run(t, load(t, src, x.units), "f")
		if end.Code != x.code || x.at != "" && src[end.At:end.At+len(x.at)] != x.at {
			t.Errorf("%s\nwith %d units: %v; want %d at %s", x.src, x.units, end, x.code, x.at)
		}
		short := run(t, load(t, src, x.units-1), "f")
		if short.Code != api.ErrMemory || short.At != at {
			t.Errorf("%s\nwith %d units: %v; want %d at %d", x.src, x.units-1, short, api.ErrMemory, at)
		}
	}
}

// Operands wait while later ones are worked out, and while something is made of them.
func TestRootsOperands(t *testing.T) {
	wantTight(t,
		tight{src: `fn f() { return "abcdefgh" == @"abcdefgi"; }`, units: 4},
		tight{src: `fn f() { return "abcdefgh" @+ "abcdefgi"; }`, units: 2 + 2 + 3},
		tight{src: `fn f() { return "abcdefgh" + "abcdefgi" @+ "abcdefgj"; }`, units: 3 + 2 + 4},
		tight{src: `fn f() { return "a" + ("bcdefgh" @+ "abcdefgi"); }`, units: 2 + 2 + 3},
		tight{src: `fn f() { return (@row(3) == nil) == (row(3) == nil); }`, units: 4},
		tight{src: `fn f() { return row(3) == (row(3) == @row(3)); }`, units: 12},
		tight{src: `fn f() { return (row(3) == @row(3)) == (row(3) == row(3)); }`, units: 8},
		tight{src: `fn f() { return @-140737488355329; }`, units: 4},
		tight{src: `fn f() { return @~140737488355329; }`, units: 4},
		tight{src: `fn f() { return -(140737488355328 @+ 140737488355329); }`, units: 6},
		tight{src: `fn f() { return not (row(3) == @row(3)); }`, units: 8},
		tight{src: `fn f() { return 140737488355328 - @140737488355328; }`, units: 4},
	)
}

func TestRootsElements(t *testing.T) {
	wantTight(t,
		tight{src: `fn f() { return row(3)[len(@row(3)) - 3]; }`, units: 8},
		tight{src: `fn f() { row(3)[len(@row(3)) - 3] = nil; }`, units: 8},
		tight{src: `fn f() { row(3)[0] = @row(3); }`, units: 8},
		tight{src: `fn f() { row(3)["abcdefgh"] = @row(3); }`, units: 10, code: api.ErrType, at: `["`},
		tight{src: `fn f() { row(3)[@"abcdefgh"][0] = row(3); }`, units: 6, code: api.ErrType, at: `["`},
		tight{src: `fn f() { let r = row(2); r[0] = "abcdefgh"; r[1] = @"abcdefgh"; r[0] = nil; r[1] = nil; r[0] = "abcdefgh"; }`, units: 3 + 2 + 2},
		tight{src: `fn f() { let b = u8(8); let v = view(b, "u8", 0, 1); b = nil; return len(@row(3)); }`, units: 2 + 1 + 4},
	)
}

// A row that was refused at the index needs no more than what had been worked out.
func TestRootsOfRefused(t *testing.T) {
	wantTight(t,
		tight{src: `fn f() { return row(3)[@row(3)]; }`, units: 8, code: api.ErrType, at: "[row"},
		tight{src: `fn f() { return len(@row(3)) + nil; }`, units: 4, code: api.ErrType, at: "+ nil"},
	)
}

func TestRootsArguments(t *testing.T) {
	wantTight(t,
		tight{src: `fn g(a, b, c) { return 1; } fn f() { return g(row(1), row(1), @row(1)); }`, units: 6},
		tight{src: `fn g(a, b, c) { return 1; } fn f() { return g(row(1), 5, len(@row(1))); }`, units: 4},
		tight{src: `fn f() { return sub("abcdefgh", len(@row(3)) - 3, 5); }`, units: 2 + 4},
		tight{src: `fn f() { return @sub("abcdefgh", 0, 6); }`, units: 2 + 2},
		tight{src: `fn f() { return store(row(3), 0, @row(3)); }`, units: 8},
		tight{src: `fn f() { return @view(u8(8), "u8", 0, 1); }`, units: 2 + 1},
		tight{src: `fn f() { return len(row(3)) + len(@row(4)); }`, units: 5},
	)
}

// Arguments become parameters: the caller has none of them while the function is under way.
func TestRootsParameters(t *testing.T) {
	wantTight(t,
		tight{src: `fn g(a) { return len(@row(3)); } fn f() { return g(row(3)); }`, units: 8},
		tight{src: `fn g(a) { a = nil; return len(row(3)); } fn f() { return g(@row(3)); }`, units: 4},
		tight{src: `fn g(a, b) { a = nil; return len(@row(4)); } fn f() { return g(row(3), row(3)); }`, units: 9},
		tight{src: `fn g(a) { a = nil; return len(@row(4)); } fn f() { return row(3) == g(row(3)); }`, units: 9},
		tight{src: `fn g(a) { a = nil; return len(@row(3)); } fn f() { let b = row(3); return g(b); }`, units: 8},
	)
}

// What callers need still, all of them.
func TestRootsCallers(t *testing.T) {
	wantTight(t,
		tight{src: `fn g() { return @row(3); } fn f() { let a = row(3); g(); }`, units: 8},
		tight{src: `fn g() { return @row(3); } fn f() { let a = g(); }`, units: 4},
		tight{src: `fn g() { return @row(3); } fn f() { return row(3) == g(); }`, units: 8},
		tight{src: `fn g() { return @row(3); } fn f() { return len(g()) + len(g()); }`, units: 4},
		tight{src: `fn g() { return @row(3); } fn h(a) { return row(1)[a == g()]; } fn f() { return row(2) == h(row(4)); }`, units: 3 + 2 + 5 + 4, code: api.ErrType, at: "[a"},
		tight{src: `fn g(n, a) { if n == 0 { return @row(3); } return g(n - 1, row(3)); } fn f() { return g(5, nil); }`, units: 24},
		tight{src: `fn g() { return len(@row(3)); } fn f() { if true { let a = row(3); } let b = row(3); g(); let c = row(1); }`, units: 8},
		tight{src: `fn g() { return len(@row(3)); } fn f() { for i in g()..4 { } }`, units: 4},
		tight{src: `fn g() { return len(@row(3)); } fn f() { for i in "abcdefgh"..g() { } }`, units: 6, code: api.ErrType, at: "for"},
	)
}

func TestRootsBounds(t *testing.T) {
	wantTight(t,
		tight{src: `fn f() { for i in "abcdefgh"..len(@row(3)) { } }`, units: 6, code: api.ErrType, at: "for"},
		tight{src: `fn f() { for i in 140737488355328..@140737488355328 { } }`, units: 4, code: api.ErrRange, at: "for"},
		tight{src: `fn f() { l: for i in len(@row(3))..len(row(3)) + 1 { let a = row(3); } }`, units: 4},
		tight{src: `fn f() { for i in len(@row(3))..5 { let a = row(3); } }`, units: 4},
	)
}

// A value that is being returned, till the caller has it, and what its function had no more.
func TestRootsReturned(t *testing.T) {
	wantTight(t,
		tight{src: `fn g() { return row(3); } fn f() { let a = g(); let b = @row(3); }`, units: 8},
		tight{src: `fn g() { return row(3); } fn f() { return g() == @row(3); }`, units: 8},
		tight{src: `fn g() { let a = @row(3); let b = nil; return len(a); } fn f() { return g() + g() + len(row(3)); }`, units: 4},
		tight{src: `fn g() { for i in 0..3 { while true { let a = @row(3); return a; } } } fn f() { let a = g(); a = nil; return g(); }`, units: 4},
		tight{src: `fn g() { row(3); } fn f() { g(); return @row(4); }`, units: 5},
		tight{src: `fn g(a) { return a; } fn f() { let a = g(g(g(@row(3)))); return len(a); }`, units: 4},
	)
}

func TestRootsVariables(t *testing.T) {
	wantTight(t,
		tight{src: `fn f() { let a = row(3); let b = @row(3); }`, units: 8},
		tight{src: `fn f() { let a = @row(3); a = nil; let b = row(3); }`, units: 4},
		tight{src: `fn f() { let a = row(3); a = @row(3); a = row(3); }`, units: 8}, // the old one till the new one is worked out
		tight{src: `fn f() { let a = row(3); let b = a; a = nil; let c = @row(3); }`, units: 8},
		tight{src: `fn f() { let a = row(3); if true { let a = @row(3); } }`, units: 8},                                // a hidden one
		tight{src: `fn f() { let a = row(3); if true { let a = a; a = nil; let b = @row(3); } }`, units: 8},            // the inner one alone is assigned
		tight{src: `fn f() { let a = row(3); if true { a = nil; let a = row(3); } let b = @row(4); }`, units: 5},       // gone out of scope
		tight{src: `fn f() { if true { let a = @row(3); } let b = row(3); }`, units: 4},                                // gone out of scope
		tight{src: `fn f() { if true { let a = row(3); if true { let b = @row(3); } let c = row(3); } }`, units: 8},    // the inner one alone has gone
		tight{src: `fn f() { if false { } else { let a = @row(3); } let b = row(3); }`, units: 4},                      // out of an else
		tight{src: `fn f() { if false { } else if true { let a = @row(3); } let b = row(3); let c = nil; }`, units: 4}, // out of another if
		tight{src: `let g; fn f() { g = row(3); let b = @row(3); }`, units: 8},
		tight{src: `let g; let h; fn f() { g = row(3); h = g; g = nil; let b = @row(3); }`, units: 8},
		tight{src: `let g; fn f() { g = @row(3); g = nil; let b = row(3); }`, units: 4},
	)
}

// What is worked out and needed no more: of statements that stand alone, conditions, `or` and `and`.
func TestRootsOfNothingElse(t *testing.T) {
	wantTight(t,
		tight{src: `fn f() { @row(3); row(3); row(3); }`, units: 4},
		tight{src: `fn f() { if @row(3) == nil { } else { row(3); } row(3); }`, units: 4},
		tight{src: `fn f() { return @row(3) == nil or len(row(3)) == 3 and row(3) != nil; }`, units: 4},
		tight{src: `fn f() { let a = row(3) != nil and row(3) != nil; return len(@row(4)); }`, units: 5},
		tight{src: `fn f() { out len(@row(3)); out len(row(3)); }`, units: 4},
		tight{src: `fn f() { out "abcdefgh" @+ "abcdefgh"; out "abcdefgh" + "abcdefgh"; }`, units: 7},
		tight{src: `fn f() { out @"abcdefgh"; out "abcdefgh"; }`, units: 2},
	)
}

// A loop's variables: those of its block are gone at its next test, and behind it.
func TestRootsOfLoops(t *testing.T) {
	wantTight(t,
		tight{src: `fn f() { for i in 0..3 { let a = @row(3); } let b = row(3); }`, units: 4},
		tight{src: `fn f() { for i in 0..3 { let a = row(3); let b = @row(3); } }`, units: 8},
		tight{src: `fn f() { for i in 0..3 { i = @row(3); } let b = row(3); }`, units: 4},
		tight{src: `fn f() { for i in 0..3 { i = row(3); let b = @row(3); } }`, units: 8},
		tight{src: `fn f() { let n = 0; while n < len(@row(3)) { let a = row(3); n = n + 1; } let b = row(3); }`, units: 4},
		tight{src: `fn f() { let n = 0; while n < len(@row(3)) { n = n + 1; let a = row(3); continue; } }`, units: 4},
		tight{src: `fn f() { while true { let a = @row(3); break; } let b = row(3); }`, units: 4},
		tight{src: `fn f() { for i in 0..3 { let a = @row(3); if i == 1 { continue; } a = nil; let b = row(3); break; } let b = row(3); }`, units: 4},
		tight{src: `fn f() { l: for i in 0..2 { let a = row(3); while true { let b = @row(3); for j in 0..9 { j = b; continue l; } } } let c = row(4); let d = row(2); }`, units: 8},
		tight{src: `fn f() { l: while true { let a = row(3); for i in 0..2 { let b = @row(3); break l; } } let c = row(7); }`, units: 8},
		tight{src: `fn f() { let a = row(3); for i in 0..3 { let b = @row(3); continue; } for i in 0..3 { break; } return len(a); }`, units: 8},
	)
}

// Things that are held are roots in runs, too.
func TestRootsHeld(t *testing.T) {
	src := "let g; fn mk(n) { return row(n); } fn f(a) { a = nil; return len(row(3)); }"
	for _, held := range []int64{0, 1, 5} {
		units := int(held) + 1 + 4
		for _, lack := range []int{0, 1} {
			m := load(t, src, units-lack)
			r := value(t, m, "mk", whole(held))
			if end := run(t, m, "f", r); (end.Code == api.ErrMemory) != (lack == 1) {
				t.Errorf("%d units, %d held: %v", units-lack, held+1, end)
			}
			wantRelease(t, m, 0, api.OK)
			if got := value(t, m, "f", null); got != whole(3) {
				t.Errorf("behind Release: %v", got)
			}
		}
	}
}

// What was handed in is kept from when it was boxed.
func TestRootsOfStart(t *testing.T) {
	m := load(t, "fn f(a, b) { return a + b; }", 7)
	a, b := text("abcdefgh"), text("ijklmnop")
	start(t, m, "f", 9, a, b)
	wantReach(t, m, 4)
	for range m.Steps() {
		wantReach(t, m, 4)
	}
	wantReach(t, m, 0)
	if got := value(t, m, "f", a, b); got != text("abcdefghijklmnop") {
		t.Error(got)
	}
	m = load(t, "fn f(a, b) { return a + b; }", 6)
	if end := run(t, m, "f", a, b); end.Code != api.ErrMemory || end.At != 22 {
		t.Error(end)
	}
	m = load(t, "let g; fn f(a, b) { }", 4)
	wantSet(t, m, "g", text("abcdefgh"), api.OK)
	wantNoStart(t, m, "f", raws(a, b), 9, api.ErrMemory)
	wantReach(t, m, 2)
	wantGlobal(t, m, "g", text("abcdefgh"))
	start(t, m, "f", 9, a, whole(1))
	wantReach(t, m, 4)
}

// Between runs the globals, old values among them, and what is held.
func TestRootsBetweenRuns(t *testing.T) {
	m := load(t, "let g; let h; fn mk() { return row(2); }", 7)
	value(t, m, "mk")
	wantSet(t, m, "g", text("abcdefgh"), api.OK)
	wantReach(t, m, 5)
	wantSet(t, m, "g", text("ijklmnop"), api.OK)
	wantReach(t, m, 5)
	wantSet(t, m, "h", text("0123456789abcdef"), api.ErrMemory)
	wantSet(t, m, "g", text("0123456789abcdef"), api.ErrMemory) // the old one is there still
	wantPoke(t, m, 0, 0, text("qrstuvwx"), api.OK)
	wantReach(t, m, 7)
	wantPoke(t, m, 0, 0, text("yz012345"), api.ErrMemory)
	wantPeek(t, m, 0, 0, text("qrstuvwx"))
	wantGlobal(t, m, "g", text("ijklmnop"))
	wantGlobal(t, m, "h", null)
	wantPoke(t, m, 0, 0, null, api.OK)
	wantReach(t, m, 5)
	wantPoke(t, m, 0, 1, text("yz012345"), api.OK)
	wantRelease(t, m, 0, api.OK)
	wantReach(t, m, 2)
}

// Reach at each tick.
func TestReachInSteps(t *testing.T) {
	for _, x := range []struct {
		src  string
		want []int
	}{
		{"fn f() { let a = row(3); if true { let b = row(1); let a = b; nil; } nil; }", []int{0, 0, 4, 4, 6, 6, 4}},
		{"fn f() { g(row(3)); nil; } fn g(a) { a = nil; nil; }", []int{0, 0, 4, 4, 0, 0}},
		{"fn f() { return row(3) == g(row(1)); } fn g(a) { let b = row(2); nil; }", []int{0, 0, 6, 6, 9}},
		{"fn f() { for i in 0..2 { i = row(3); nil; } }", []int{0, 0, 0, 0, 4, 0, 0, 4, 0}},
		{"let g; fn f() { while g == nil { let a = row(3); g = a; } g = nil; nil; }", []int{0, 0, 0, 0, 4, 4, 4, 0}},
		{"fn f() { let a = row(2); a[0] = a; a[1] = \"abcdefgh\"; a = a[1]; nil; }", []int{0, 0, 3, 3, 5, 2}},
		{"fn f() { let a = \"abcdefgh\"; let b = a; b = 140737488355328; a = b; nil; }", []int{0, 0, 2, 2, 4, 2}},
		{"fn f() { row(3); return g(); } fn g() { nil; return row(1); }", []int{0, 0, 0, 0, 0, 0}},
	} {
		m := load(t, x.src, plenty)
		start(t, m, "f", plenty)
		wantReach(t, m, 0)
		var got []int
		for range m.Steps() {
			got = append(got, m.Reach())
		}
		if !slices.Equal(got, x.want) {
			t.Errorf("%s: %v; want %v", x.src, got, x.want)
		}
	}
}

// Without a unit all goes well that needs no cell.
func TestNoUnits(t *testing.T) {
	m := load(t, `let g; fn f(n) { g = "ab" + "cde"; for i in 0..n { if i * 0x1p-1 > 2 { return g; } } }`, 0)
	if got := value(t, m, "f", whole(9)); got != text("abcde") {
		t.Error(got)
	}
	if got := value(t, m, "f", whole(1)); got != null {
		t.Error(got)
	}
}
