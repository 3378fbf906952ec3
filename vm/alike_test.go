package vm_test

import (
	"math/rand"
	"testing"

	"casket/api"
	"casket/vm"
)

// Promise 16.1, and W4: what chapter 15 promises, asked of both machines of one source, step by step.

// enough is fuel for the corpus, but for the sources that never end.
const enough = 400

// wantAlike goes through a run of f with both machines of a source.
func wantAlike(t *testing.T, x example, units int, fuel int64) api.End {
	t.Helper()
	end, _ := pair(t, x.src, units).through(fuel, x.args...)
	if t.Failed() {
		t.Fatalf("%s\nwith %s, %d units, fuel %d", x.src, short(x.args), units, fuel)
	}
	return end
}

// Fuel of nought, of just enough, of one less, and all between.
func TestAlikeByFuel(t *testing.T) {
	for _, x := range corpus() {
		end := wantAlike(t, x, 5000, enough)
		for fuel := range min(end.Ticks+2, 100) {
			wantAlike(t, x, 5000, fuel)
		}
		wantAlike(t, x, 5000, end.Ticks)
		wantAlike(t, x, 5000, max(end.Ticks-1, 0))
	}
}

// Heaps with just the room, with one unit less, with none.
func TestAlikeByUnits(t *testing.T) {
	met := map[api.Errno]int{}
	for _, x := range corpus() {
		for units := range 45 {
			met[wantAlike(t, x, units, enough).Code]++
		}
	}
	for _, code := range []api.Errno{api.OK, api.ErrMemory, api.ErrType, api.ErrFuel, api.ErrDepth, api.ErrOverflow, api.ErrDivZero, api.ErrShift, api.ErrIndex, api.ErrRange, api.ErrForm} {
		if met[code] == 0 {
			t.Errorf("no run has ended with %d", code)
		}
	}
}

// What is told is bounded, whichever line it is.
func TestAlikeTooMuchTold(t *testing.T) {
	for _, n := range []int{1, 9, 254, 255, 256, 1000} {
		src := "fn f(s) { while true { out s; } }"
		end := wantAlike(t, example{src, raws(text(filler(n)))}, plenty, plenty*plenty)
		if end.Code != api.ErrOut || len(end.Out) != api.MaxOut/(n+1) || end.At != 23 {
			t.Errorf("lines of %d bytes: %d at %d behind %d", n, end.Code, end.At, len(end.Out))
		}
	}
}

// What runs leave is there in the next one: globals, things that are held, numbers that were given.
func TestAlikeFromRunToRun(t *testing.T) {
	sources := []string{
		"let n; let r; fn f() { if n == nil { n = 0; } n = n + 1; out n; let old = r; r = row(n); r[0] = old; return r; }",
		"let n; fn f() { if n == nil { n = 140737488355325; } n = n + 1; return n; }",
		"let n; let r; fn f() { n = row(2); n[0] = n; if r == nil { r = n; return r; } return 1 // 0; }",
		"let n; fn f() { while true { if n == nil { n = 1; } n = n * 3; } }",
	}
	for _, src := range sources {
		for units := range 30 {
			b := pair(t, src, units)
			for range 4 {
				b.through(12)
				b.global("n")
				b.global("r")
				for ref := range 4 {
					b.peek(ref, 0)
				}
				b.same()
			}
			if t.Failed() {
				t.Fatalf("%s\nwith %d units", src, units)
			}
		}
	}
}

// A run is the same however it is gone through: at once, step by step, by Steps, and by Steps that are left early.
func TestAlikeHowever(t *testing.T) {
	ways := []func(m *vm.Machine) int64{
		func(m *vm.Machine) (n int64) {
			for m.Step() {
				n++
			}
			return n
		},
		func(m *vm.Machine) (n int64) {
			for s := range m.Steps() {
				if n++; s.Ticks != n {
					t.Errorf("tick %d: %v", n, s)
				}
			}
			return n
		},
		func(m *vm.Machine) (n int64) {
			for more := true; more; {
				more = false
				for range m.Steps() {
					more = true
					if n++; n%3 == 0 {
						break
					}
				}
			}
			return n
		},
	}
	for _, x := range corpus() {
		whole := load(t, x.src, 100)
		want, e := whole.Run("f", x.args, enough)
		for i, way := range ways {
			m := load(t, x.src, 100)
			if got := m.Start("f", x.args, enough); got != e {
				t.Errorf("%s: Start is %d; Run's is %d", x.src, got, e)
			}
			n := way(m)
			if end, ok := m.End(); !ok || !sameEnd(end, want) || n != want.Ticks {
				t.Errorf("%s, way %d: %d ticks, %v; want %v", x.src, i, n, end, want)
			}
		}
	}
}

// Drawn sources, with drawn fuel and units, from run to run.
func TestAlikeDrawn(t *testing.T) {
	met := map[api.Errno]int{}
	for seed := range int64(900) {
		src := drawn(seed)
		c := rand.New(rand.NewSource(seed))
		units := c.Intn(60)
		if seed%3 == 0 {
			units = plenty
		}
		b := pair(t, src, units)
		for range 3 {
			args, fuel := drawnArgs(c), int64(c.Intn(300))
			end, _ := b.through(fuel, args...)
			met[end.Code]++
			b.global("m0")
			b.global("r0")
			b.peek(0, 0)
			if t.Failed() {
				t.Fatalf("seed %d, %d units, fuel %d, %v:\n%s", seed, units, fuel, args, src)
			}
		}
	}
	t.Log(met)
	for _, code := range []api.Errno{api.OK, api.ErrType, api.ErrMemory, api.ErrFuel, api.ErrDepth, api.ErrOverflow, api.ErrDivZero} {
		if met[code] == 0 {
			t.Errorf("no run has ended with %d", code)
		}
	}
}
