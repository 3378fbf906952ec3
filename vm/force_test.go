package vm_test

import (
	"math/rand"
	"testing"

	"casket/api"
)

// Promises 16.2 and 16.4, and W9: sites that are given forms.

// Sites that are none, forms that are none: nothing changes.
func TestForceOfNone(t *testing.T) {
	m := load(t, "fn f(a, b) { return a + b < a; }", plenty)
	for range 4 {
		run(t, m, "f", whole(1), whole(2))
	}
	was := m.Sites()
	asked := func() {
		t.Helper()
		for _, i := range []int{-1 << 63, -2, -1, 2, 3, 1<<63 - 1} {
			for _, form := range []int{-1, 0, 1, 2, 3} {
				wantForce(t, m, i, form, api.ErrSite)
			}
		}
		for i := range 2 {
			for _, form := range []int{-1 << 63, -1, 3, 4, 99, 1<<63 - 1} {
				wantForce(t, m, i, form, api.ErrSite)
			}
		}
		wantSites(t, m, was...)
	}
	asked()
	start(t, m, "f", plenty, whole(1), whole(2))
	asked()
	m.Step()
	asked()
	none := load(t, "fn f(a) { return a & 1; }", plenty)
	for i := -1; i < 2; i++ {
		wantForce(t, none, i, api.Generic, api.ErrSite)
	}
}

// A form that was given is there at once, and its row is none; counts stay.
func TestForceForms(t *testing.T) {
	m := load(t, "fn f(a, b) { return a - b; }", plenty)
	for range 2 {
		run(t, m, "f", whole(1), whole(2))
	}
	for _, form := range []int{api.Double, api.Whole, api.Double, api.Generic} {
		wantForce(t, m, 0, form, api.OK)
		wantSites(t, m, api.Site{At: 22, Form: form, Generic: 2})
	}
	for range 2 { // a row of two was there, and is no more
		run(t, m, "f", whole(1), whole(2))
	}
	wantSites(t, m, api.Site{At: 22, Generic: 4})
	run(t, m, "f", whole(1), whole(2))
	wantSites(t, m, api.Site{At: 22, Form: api.Whole, Generic: 5})
	wantForce(t, m, 0, api.Double, api.OK)
	if end := run(t, m, "f", double(one), double(half)); end.Value != double(half) {
		t.Error(end)
	}
	wantSites(t, m, api.Site{At: 22, Form: api.Double, Generic: 5, Fast: 1})
}

// forceAll gives all sites forms, as told by their numbers.
func forceAll(t testing.TB, b *both, form func(i int) int) {
	t.Helper()
	for i := range b.regs.Sites() {
		wantForce(t, b.regs, i, form(i), api.OK)
	}
}

// Each form, ahead of the first step, at each one, behind the last one: all else is the same.
func TestForcedAlike(t *testing.T) {
	for _, x := range corpus() {
		for _, form := range forms {
			for _, units := range []int{5, 12, plenty} {
				b := pair(t, x.src, units)
				forceAll(t, b, func(int) int { return form })
				if b.start("f", enough, x.args...) != api.OK {
					continue
				}
				for more := true; more; {
					forceAll(t, b, func(int) int { return form })
					b.same()
					more = b.step()
				}
				forceAll(t, b, func(int) int { return form })
				b.same()
				if t.Failed() {
					t.Fatalf("%s\nwith %v, %d units, form %d", x.src, x.args, units, form)
				}
			}
		}
	}
}

// Forced at one step alone, whichever that is.
func TestForcedOnce(t *testing.T) {
	for _, x := range numbers() {
		for at := range int64(40) {
			for shift := range 3 {
				b := pair(t, x.src, plenty)
				b.start("f", 60, x.args...)
				for n := int64(0); ; n++ {
					if n == at {
						forceAll(t, b, func(i int) int { return forms[(i+shift)%3] })
					}
					if !b.step() {
						break
					}
				}
				if t.Failed() {
					t.Fatalf("%s\nwith %v, forced at step %d", x.src, x.args, at)
				}
			}
		}
	}
}

// Drawn sources, with drawn forcing at drawn steps. How often an operator is done hangs on no form.
func TestForcedDrawn(t *testing.T) {
	for seed := range int64(900) {
		src := drawn(seed)
		c := rand.New(rand.NewSource(seed))
		units := c.Intn(60)
		if seed%2 == 0 {
			units = plenty
		}
		b := pair(t, src, units)
		free := load(t, src, units)
		often := 1 + c.Intn(6)
		for range 3 {
			args, fuel := drawnArgs(c), int64(c.Intn(300))
			free.Run("f", args, fuel)
			if b.start("f", fuel, args...) != api.OK {
				continue
			}
			for more := true; more; {
				if c.Intn(often) == 0 {
					forceAll(t, b, func(int) int { return forms[c.Intn(3)] })
				}
				more = b.step()
			}
			b.global("r0")
			free.Global("r0") // what goes out is held
			wantDoneAsOften(t, b, free.Sites())
			if t.Failed() {
				t.Fatalf("seed %d, %d units, fuel %d, %v:\n%s", seed, units, fuel, args, src)
			}
		}
	}
}

func wantDoneAsOften(t *testing.T, b *both, free []api.Site) {
	t.Helper()
	for i, s := range b.regs.Sites() {
		if s.Generic+s.Fast != free[i].Generic+free[i].Fast {
			t.Errorf("site %d: %+v; not forced: %+v", i, s, free[i])
		}
	}
}
