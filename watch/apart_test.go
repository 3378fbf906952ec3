package watch_test

import (
	"reflect"
	"testing"

	"casket/api"
	"casket/vm"
)

// 21.4: Apart.

// pairs goes through machines of two sources, of all kinds.
func pairs(t testing.TB, one, other string, units int, do func(a, b machine)) {
	t.Helper()
	for _, first := range kinds {
		for _, second := range kinds {
			do(open(t, one, units, first), open(t, other, units, second))
		}
	}
}

// a refuses: its error is told, and nothing is done to b, wherever that stands.
func TestApartRefusedByFirst(t *testing.T) {
	for _, c := range refused {
		pairs(t, refusing, "fn f(a) { out a; out 2; }", 3, func(a, b machine) {
			wantNoApart(t, a, b, c.name, c.args, c.fuel, c.want)
			wantNoRun(t, a)
			wantNoRun(t, b)
			if end, ok := b.End(); ok {
				t.Error("b has an End:", short(end))
			}
			b.Run("f", raws(whole(1)), 9)
			wantNoApart(t, a, b, c.name, c.args, c.fuel, c.want)
			wantNoRun(t, b)
			if end, ok := b.End(); !ok || end.Ticks != 3 {
				t.Error("b's End:", short(end), ok)
			}
			start(t, b, "f", 9, whole(1))
			step(t, b, 2)
			wantNoApart(t, a, b, c.name, c.args, c.fuel, c.want)
			if s, ok := b.State(); !ok || s.Ticks != 2 {
				t.Error("b's State:", short(s), ok)
			}
		})
	}
}

// b refuses: its error is told, and a's run is under way, ahead of its first tick.
func TestApartRefusedBySecond(t *testing.T) {
	src := "fn none(a) { } fn z(a) { } fn f(a, b) { } fn g() { out 3; } fn len2() { }"
	for _, c := range []struct {
		name string
		args []api.Raw
		want api.Errno
	}{
		{"none", raws(null), api.ErrFunc}, {"g", nil, api.ErrFunc}, {"z", raws(null), api.ErrCount}, {"f", raws(null, null), api.ErrCount}, {"len2", nil, api.ErrFunc},
	} {
		pairs(t, src, refusing, 3, func(a, b machine) {
			wantNoApart(t, a, b, c.name, c.args, 9, c.want)
			wantNoRun(t, b)
			if _, ok := a.State(); ok {
				t.Error("a has ticked")
			}
			if e := a.Release(0); e != api.ErrState {
				t.Error("a's run:", e)
			}
			if x := byHand(t, a); len(x.states) == 0 || x.end.Code != api.OK {
				t.Error("a's run:", short(x))
			}
		})
	}
}

// The arguments may be right at a and wrong at b: a thing that a alone holds; memory that a alone has.
func TestApartArguments(t *testing.T) {
	for _, first := range kinds {
		for _, second := range kinds {
			a, b := open(t, refusing, 90, first), open(t, refusing, 3, second)
			a.Run("z", nil, 9)
			wantNoApart(t, a, b, "f", raws(thing(api.Row, 0, 1)), 9, api.ErrRef)
			if x := byHand(t, a); len(x.states) != 3 || x.end.Value != thing(api.Row, 0, 1) {
				t.Error("a's run:", short(x))
			}
			wantNoRun(t, b)
			wantNoApart(t, a, b, "f", raws(text("a text that is too long for b, whose heap has three units")), 9, api.ErrMemory)
			if s, ok := a.State(); ok || a.Release(0) != api.ErrState {
				t.Error("a's run:", short(s), ok)
			}
		}
	}
}

// A run that is under way is refused at either place, and stays where it stands; of one machine twice the second Start is.
func TestApartUnderWay(t *testing.T) {
	x := traced(t, example, tree, plenty)
	for made := range len(x.states) + 1 {
		pairs(t, example, example, plenty, func(a, b machine) {
			start(t, a, "f", plenty)
			step(t, a, made)
			wantNoApart(t, a, b, "f", nil, plenty, api.ErrState)
			wantStand(t, a, x, made)
			wantNoRun(t, b)
			wantNoApart(t, b, a, "f", nil, plenty, api.ErrState)
			wantStand(t, a, x, made)
			wantStand(t, b, x, 0)
			wantRest(t, b, x, 0)
			wantRest(t, a, x, made)
			wantNoApart(t, a, a, "f", nil, plenty, api.ErrState)
			wantStand(t, a, x, 0)
			wantRest(t, a, x, 0)
		})
	}
}

// Both would refuse: what a says is told.
func TestApartRefusedByBoth(t *testing.T) {
	pairs(t, "fn f(a) { }", "fn g() { }", 9, func(a, b machine) {
		wantNoApart(t, a, b, "f", nil, 9, api.ErrCount)
		wantNoApart(t, b, a, "f", nil, 9, api.ErrFunc)
		wantNoApart(t, a, b, "f", raws(null), -1, api.ErrRange)
	})
}

// Of one source machines of whatever kinds are not apart: how many ticks they made is told, and both have ended.
func TestNotApart(t *testing.T) {
	for _, src := range []string{
		winding,
		deepening,
		"fn f(n) { }",
		"fn f(n) { return n; }",
		"fn f(n) { let r = row(3); r[0] = r; r[1] = \"a longer text\"; out r[n]; return r; }",
		"fn f(n) { let s = \"\"; for i in 0..n { s = s + text(i * i); out s; } return s; }",
		"fn f(n) { return f(n); }",
		"fn f(n) { return 9 // (n - 2); }",
		"fn f(n) { let d = 0x1p-1; l: while true { d = d * 0x1.8p+0; for k in 0..n { if d > 0x1p+7 { break l; } } } return d; }",
		"fn f(n) { while true { out n; n = n * 3; } }",
	} {
		for n := range int64(5) {
			for _, fuel := range []int64{0, 1, 2, 3, 10, plenty} {
				want := traced(t, src, tree, fuel, whole(n))
				pairs(t, src, src, plenty, func(a, b machine) {
					wantApart(t, a, b, "f", raws(whole(n)), fuel, want.end.Ticks, false)
					wantStand(t, a, want, len(want.states)+1)
					wantStand(t, b, want, len(want.states)+1)
				})
			}
		}
	}
}

// fields are the names of those in which two structs differ.
func fields(a, b any) []string {
	var list []string
	x, y := reflect.ValueOf(a), reflect.ValueOf(b)
	for i := range x.NumField() {
		if !reflect.DeepEqual(x.Field(i).Interface(), y.Field(i).Interface()) {
			list = append(list, x.Type().Field(i).Name)
		}
	}
	return list
}

// Two sources whose runs part: at which Step, and in which field alone they differ there. None is, where one alone has ticked; a field of an End has a dot ahead.
var parting = []struct {
	name, one, other string
	n                int64
	field            string
}{
	{"the first Step", "fn f() { }", "fn  f() { }", 1, "At"},
	{"the place, in the middle", "fn f() { 1;  2; 3; }", "fn f() {  1; 2; 3; }", 2, "At"},
	{"the place, at the last Step", "fn f() { 1; 2; 3; }", "fn f() { 1; 2;  3; }", 4, "At"},
	{"functions under way", "fn f() { g(); } fn g() { }", "fn f() { 1;        2; }", 3, "Depth"},
	{"how many variables", "fn f() { let a = 1; 2; }", "fn f() {     1    ; 2; }", 3, "Vars"},
	{"how many variables of several", "fn f() { let a = 1; let b = 1; 2; }", "fn f() { let a = 1;     1    ; 2; }", 4, "Vars"},
	{"a variable's number", "fn f() { let a = 1; 2; }", "fn f() { let a = 2; 2; }", 3, "Vars"},
	{"a variable's kind", "fn f() { let a = 1   ; 2; }", "fn f() { let a = true; 2; }", 3, "Vars"},
	{"a variable's kind, of nothing", "fn f() { let a = nil  ; 2; }", "fn f() { let a = false; 2; }", 3, "Vars"},
	{"a variable's double", "fn f() { let a = 0x1p+0; 2; }", "fn f() { let a = 0x1p+1; 2; }", 3, "Vars"},
	{"a variable's nought", "fn f() { let a =  0x0p+0; 2; }", "fn f() { let a = -0x0p+0; 2; }", 3, "Vars"},
	{"a variable's string", "fn f() { let a = \"abcdef\"; 2; }", "fn f() { let a = \"abcdeg\"; 2; }", 3, "Vars"},
	{"a variable's length", "fn f() { let a = row(1); 2; }", "fn f() { let a = row(2); 2; }", 3, "Vars"},
	{"a variable's kind of elements", "fn f() { let a = f32(1); 2; }", "fn f() { let a = f64(1); 2; }", 3, "Vars"},
	{"the first of two variables", "fn f() { let a = 5; let b = 1; 2; }", "fn f() { let a = 6; let b = 1; 2; }", 3, "Vars"},
	{"the second of two variables", "fn f() { let a = 5; let b = 1; 2; }", "fn f() { let a = 5; let b = 2; 2; }", 4, "Vars"},
	{"a variable that is hidden", "fn f() { let a = 1; if true { let a = 3; 2; } }", "fn f() { let a = 2; if true { let a = 3; 2; } }", 3, "Vars"},
	{"a parameter that was changed", "fn f() { g(1); } fn g(a) { a = 1; 2; }", "fn f() { g(1); } fn g(a) { a = 2; 2; }", 5, "Vars"},
	{"a variable, late in a loop", "fn f() { for i in 0..9 { let a = i // 8; 2; } }", "fn f() { for i in 0..9 { let a = i // 7; 2; } }", 26, "Vars"},
	{"lines told", "fn f() { out 1; 2; }", "fn f() { 1    ; 2; }", 3, "Out"},
	{"which way it goes", "fn f() { if true  { 2; } 3; }", "fn f() { if false { 2; } 3; }", 3, "At"},
	{"an end that is early", "fn f() { out 1; }", "fn f() { out 1; out 2; }", 3, ""},
	{"an error that is early", "fn f() { out 1 // 0; out 2; }", "fn f() { out 1 // 1; out 2; }", 3, ""},
	{"a return that is early", "fn f() { out g(); } fn g() { return 1; 2; }", "fn f() { out g(); } fn g() { 1       ; 2; }", 5, ""},
	{"an end behind the first tick", "fn f() { }", "fn f() { return; }", 2, ""},
	{"the value's number", "fn f() { return 1; }", "fn f() { return 2; }", 2, ".Value"},
	{"the value's kind", "fn f() { return 1; }", "fn f() { return true; }", 2, ".Value"},
	{"the value's kind, of nothing", "fn f() { return; }", "fn f() { return false; }", 2, ".Value"},
	{"the value's double", "fn f() { return 0x1p+0; }", "fn f() { return 0x1p+1; }", 2, ".Value"},
	{"the value's string", "fn f() { return \"abcdef\"; }", "fn f() { return \"abcdefg\"; }", 2, ".Value"},
	{"the value's length", "fn f() { return u8(3); }", "fn f() { return u8(4); }", 2, ".Value"},
	{"the value's kind of elements", "fn f() { return u8(3); }", "fn f() { return i16(3); }", 2, ".Value"},
	{"the error", "fn f() { return 1 // 0; }", "fn f() { return 1 // \"\"; }", 2, ".Code"},
	{"the error's place", "fn f() { return 1 // 0; }", "fn f() { return 1  // 0; }", 2, ".At"},
	{"a line", "fn f() { out 1; }", "fn f() { out 2; }", 2, ".Out"},
	{"a line of several", "fn f() { out 1; out 2; out 3; }", "fn f() { out 1; out 4; out 3; }", 4, ".Out"},
	{"how many lines", "fn f() { out 1; }", "fn f() { 1; }", 2, ".Out"},
	{"lines in another order", "fn f() { out 1; out 2; }", "fn f() { out 2; out 1; }", 3, ".Out"},
}

// wantField looks whether the sources above are what they are said to be.
func wantField(t testing.TB, x, y trace, n int64, field string) {
	t.Helper()
	short, long := min(len(x.states), len(y.states)), max(len(x.states), len(y.states))
	var list []string
	switch {
	case field == "":
		if int64(short+1) != n || int64(long) < n {
			t.Errorf("%d and %d ticks", len(x.states), len(y.states))
		}
		return
	case field[0] == '.':
		field = field[1:]
		list = fields(x.end, y.end)
	default:
		list = fields(x.states[n-1], y.states[n-1])
	}
	if !reflect.DeepEqual(list, []string{field}) {
		t.Errorf("they differ in %v, not in %s", list, field)
	}
}

func TestParting(t *testing.T) {
	for _, c := range parting {
		x, y := traced(t, c.one, tree, plenty), traced(t, c.other, tree, plenty)
		wantField(t, x, y, c.n, c.field)
		if n, apart := x.apart(y); n != c.n || !apart {
			t.Error("by hand:", n, apart)
		}
		// Behind it each stands where so many Steps lead to, and goes on from there.
		stand := func(m machine, x trace) {
			made := int(c.n)
			if c.field != "" && c.field[0] == '.' {
				made++ // the Step with which it ended
			}
			wantStand(t, m, x, min(made, len(x.states)+1))
			if made <= len(x.states) {
				wantRest(t, m, x, made)
			}
		}
		pairs(t, c.one, c.other, plenty, func(a, b machine) {
			wantApart(t, a, b, "f", nil, plenty, c.n, true)
			stand(a, x)
			stand(b, y)
		})
		pairs(t, c.other, c.one, plenty, func(a, b machine) {
			wantApart(t, a, b, "f", nil, plenty, c.n, true)
			stand(a, y)
			stand(b, x)
		})
		if t.Failed() {
			t.Fatal(c.name)
		}
	}
}

// Without fuel for a Step there is none: the Ends alone are held against each other.
func TestApartWithoutStep(t *testing.T) {
	pairs(t, "fn f() { }", "fn f() { out 1; }", 9, func(a, b machine) {
		wantApart(t, a, b, "f", nil, 0, 0, false) // both end at the function's place
		wantApart(t, a, b, "f", nil, 1, 1, true)  // one well, the other without fuel
		wantApart(t, a, b, "f", nil, 2, 2, true)  // the other ticks once more
	})
	pairs(t, "fn f() { }", "fn  f() { }", 9, func(a, b machine) {
		wantApart(t, a, b, "f", nil, 0, 0, true)
		wantApart(t, a, b, "f", nil, 1, 1, true)
	})
}

// Fuel that ends ahead of where runs part: they do not.
func TestApartAheadOfParting(t *testing.T) {
	for _, c := range parting {
		if c.field == "" || c.field[0] == '.' {
			continue
		}
		x, y := traced(t, c.one, tree, c.n-1), traced(t, c.other, tree, c.n-1)
		same := sameEnd(x.end, y.end) // the tick that is not made may be at another place
		pairs(t, c.one, c.other, plenty, func(a, b machine) {
			wantApart(t, a, b, "f", nil, c.n-1, c.n-1, !same)
		})
	}
}

// Value's Ref is left aside: machines that hold things already give other numbers.
func TestApartThings(t *testing.T) {
	src := "let g; fn f(n) { g = row(n); return g; } fn more() { return u8(1); }"
	pairs(t, src, src, plenty, func(a, b machine) {
		for range 3 {
			b.Run("more", nil, 9)
		}
		wantApart(t, a, b, "f", raws(whole(2)), 9, 3, false)
		x, _ := a.End()
		y, _ := b.End()
		if x.Value != thing(api.Row, 0, 2) || y.Value != thing(api.Row, 3, 2) {
			t.Error("the rows:", x.Value, y.Value)
		}
		wantApart(t, a, b, "f", raws(whole(0)), 9, 3, false)
	})
}

// Globals that were set otherwise tell them apart where that is to be seen, not earlier.
func TestApartGlobals(t *testing.T) {
	src := "let g; fn f() { let a = 1; a = g; out 5; return 0; } fn last() { return g; } fn line() { out g; } fn way() { if g == 1 { out 3; } else { out 4; } } fn unseen() { let a = g == nil; g = 1; out 1; }"
	for _, c := range []struct {
		name   string
		before api.Raw
		n      int64
		apart  bool
	}{
		{"f", whole(2), 4, true},
		{"last", whole(2), 2, true},
		{"line", whole(2), 2, true},
		{"way", whole(2), 3, true},
		{"unseen", whole(2), 4, false},
		{"f", whole(1), 5, false},
		{"last", whole(1), 2, false},
	} {
		pairs(t, src, src, plenty, func(a, b machine) {
			a.SetGlobal("g", whole(1))
			b.SetGlobal("g", c.before)
			wantApart(t, a, b, c.name, nil, 99, c.n, c.apart)
		})
	}
}

// Heaps of another size part where one refuses; what was reached beforehand counts, too.
func TestApartMemory(t *testing.T) {
	src := "let g; fn f() { let a = row(4); out 1; let b = row(4); out 2; }"
	for _, first := range kinds {
		for _, second := range kinds {
			wantApart(t, open(t, src, 10, first), open(t, src, 9, second), "f", nil, 99, 5, true)
			wantApart(t, open(t, src, 10, first), open(t, src, 11, second), "f", nil, 99, 5, false)
			wantApart(t, open(t, src, 9, first), open(t, src, 8, second), "f", nil, 99, 4, false)
			a, b := open(t, src, 12, first), open(t, src, 12, second)
			wantApart(t, a, b, "f", nil, 99, 5, false)
			b.SetGlobal("g", whole(1<<50))
			wantApart(t, a, b, "f", nil, 99, 5, false)
			b.SetGlobal("g", text("ab cd ef gh ij kl"))
			wantApart(t, a, b, "f", nil, 99, 5, true)
		}
	}
}

// W9: whatever forms its sites have, a register machine is not apart from others.
func TestApartForms(t *testing.T) {
	src := "fn f(n) { let s = 0; for i in 0..n { s = s + i * 2; if s > 5 { s = s / 4; } } return s; }"
	for _, kind := range kinds {
		for form := range 3 {
			a := open(t, src, plenty, kind)
			b := open(t, src, plenty, regs).(*vm.Machine)
			for n := range int64(9) {
				for i := range b.Sites() {
					b.Force(i, form)
				}
				want := traced(t, src, tree, plenty, whole(n))
				wantApart(t, a, b, "f", raws(whole(n)), plenty, want.end.Ticks, false)
			}
		}
	}
}
