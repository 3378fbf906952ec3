package turns_test

import (
	"strings"
	"testing"

	"casket/api"
	"casket/turns"
)

// 17.1: Load.

func wantRefused(t *testing.T, x *turns.Turns, src string, units int, want api.Fault) {
	t.Helper()
	for _, kind := range kinds {
		if id, fault := x.Load(src, units, kind); id != 0 || fault != want {
			t.Errorf("Load(%.100q, %d, %v) is %d, %v; want 0, %v", src, units, kind, id, fault, want)
		}
		if fault := faultAlone(src, units, kind); fault != want {
			t.Errorf("New(%.100q, %d) tells %v; want %v", src, units, fault, want)
		}
	}
}

// Numbers are given from 0 on, whatever the kind; a refused Load uses up none.
func TestNumbers(t *testing.T) {
	x := turns.New()
	right := "fn f() { }"
	wantRefused(t, x, "fn", 10, api.Fault{Code: api.ErrSyntax, At: 2})
	load(t, x, 0, right, 10, tree, regs, regs)
	wantRefused(t, x, right, -1, api.Fault{Code: api.ErrArg})
	load(t, x, 3, right, 10, tree)
	wantRefused(t, x, "fn f() { g(); }", 10, api.Fault{Code: api.ErrName, At: 9})
	load(t, x, 4, "", 0, regs, tree)
	for id := range 4 {
		start(t, x, id, "f", 9)
	}
	wantStart(t, x, 4, "f", nil, 9, api.ErrFunc)
	wantStart(t, x, 5, "f", nil, 9, api.ErrFunc)
	wantStart(t, x, 6, "f", nil, 9, api.ErrArg)
}

// What New refuses is refused with its fault, and leaves all as it was.
func TestRefusedSources(t *testing.T) {
	x := loaded(t, "fn f() { out 1; }", plenty, tree, regs)
	start(t, x, 0, "f", 9)
	start(t, x, 1, "f", 9)
	wantGo(t, x, []int{9, 1}, []int{0, 1}, 3)
	for _, c := range []struct {
		src   string
		units int
		want  api.Fault
	}{
		{"fn f() { }", -1, api.Fault{Code: api.ErrArg}},
		{"fn f() { }", -1 << 63, api.Fault{Code: api.ErrArg}},
		{"fn f() { }", api.MaxUnits + 1, api.Fault{Code: api.ErrArg}},
		{"fn f() { }", 1<<63 - 1, api.Fault{Code: api.ErrArg}},
		{"$", -1, api.Fault{Code: api.ErrArg}}, // the units ahead of the source
		{"fn f() { $ }", 9, api.Fault{Code: api.ErrByte, At: 9}},
		{"fn f() { \"a }", 9, api.Fault{Code: api.ErrString, At: 9}},
		{"fn f() { 007; }", 9, api.Fault{Code: api.ErrNumber, At: 9}},
		{strings.Repeat(" ", api.MaxSource+1), 9, api.Fault{Code: api.ErrLong}},
		{"out 1;", 9, api.Fault{Code: api.ErrSyntax}},
		{"fn f() { return x; }", 9, api.Fault{Code: api.ErrName, At: 16}},
		{"fn f() { } fn f() { }", 9, api.Fault{Code: api.ErrTwice, At: 14}},
		{"fn f() { break; }", 9, api.Fault{Code: api.ErrLoop, At: 9}},
		{"fn f(a) { f(); }", 9, api.Fault{Code: api.ErrCount, At: 10}},
	} {
		wantRefused(t, x, c.src, c.units, c.want)
		wantLeft(t, x, 1)
		wantStart(t, x, 2, "f", nil, 9, api.ErrArg)
	}
	wantEnd(t, x, 0, api.End{Ticks: 2, Out: []string{"1"}})
	wantGo(t, x, []int{9}, []int{1}, 1)
}

// Units are the machine's: none of them, and as many as there may be.
func TestUnits(t *testing.T) {
	src := `fn f(n) { return row(n); } fn z() { return 7; }`
	for _, kind := range kinds {
		x := turns.New()
		load(t, x, 0, src, 0, kind)
		load(t, x, 1, src, 2, kind)
		load(t, x, 2, src, api.MaxUnits, kind)
		for id := range 3 {
			start(t, x, id, "f", 9, whole(1))
		}
		wantGo(t, x, []int{9, 9, 9}, []int{0, 1, 2}, 6)
		wantEnd(t, x, 0, api.End{Code: api.ErrMemory, At: 17, Ticks: 2})
		wantEnd(t, x, 1, api.End{Ticks: 2, Value: thing(api.Row, 0, 1)})
		wantEnd(t, x, 2, api.End{Ticks: 2, Value: thing(api.Row, 0, 1)})
		start(t, x, 0, "z", 9)
		start(t, x, 2, "f", 9, whole(100000))
		wantGo(t, x, []int{9, 9}, []int{0, 2}, 4)
		wantEnd(t, x, 0, api.End{Ticks: 2, Value: whole(7)})
		wantEnd(t, x, 2, api.End{Ticks: 2, Value: thing(api.Row, 1, 100000)})
	}
}

// Many machines of both kinds, each with what is its own.
func TestManyMachines(t *testing.T) {
	x := turns.New()
	for id := range 40 {
		load(t, x, id, "let n; fn f(a) { n = a; out n; return n + 1; }", 10, id%3 == 0)
	}
	for id := range 40 {
		start(t, x, id, "f", 9, whole(int64(id)))
	}
	for id := range 40 {
		wantGo(t, x, []int{9}, []int{id}, 4)
	}
	for id := range 40 {
		wantEnd(t, x, id, api.End{Ticks: 4, Value: whole(int64(id) + 1), Out: []string{short(id)}})
	}
}
