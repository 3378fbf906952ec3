package vm_test

import (
	"math/rand"
	"slices"
	"strings"
	"testing"

	"casket/api"
	"casket/check"
	"casket/vm"
)

// Promise 16.3: code, and registers.

// functions are the names of a source's functions, and which sites each has.
func functions(t testing.TB, src string) (names []string, sites map[string][]int) {
	t.Helper()
	l, fault := check.Load(src)
	if fault.Code != api.OK {
		t.Fatal(fault)
	}
	sites = map[string][]int{}
	places := check.Sites(l)
	for _, node := range l {
		if node.Kind == api.NodeFunc {
			names = append(names, node.Text)
		}
		if n, has := slices.BinarySearch(places, node.At); has && node.Kind == api.NodeBinary {
			name := names[len(names)-1]
			sites[name] = append(sites[name], n)
		}
	}
	return names, sites
}

// wantCode holds the code of each function against its sites as they stand, and its registers against chapter 13's.
func wantCode(t testing.TB, m *vm.Machine, src string) {
	t.Helper()
	l, _ := check.Load(src)
	names, sites := functions(t, src)
	told := m.Sites()
	for _, name := range names {
		regs, e := m.Regs(name)
		if most := check.Regs(l, name); e != api.OK || regs < 0 || regs > most {
			t.Errorf("Regs(%s): %d, %d; at most %d", name, regs, e, most)
		}
		var met []int
		for _, in := range codeOf(t, m, name) {
			if in.Site == -1 {
				continue
			}
			met = append(met, in.Site)
			if in.Form != told[in.Site].Form {
				t.Errorf("%s: %+v; the site: %+v", name, in, told[in.Site])
			}
			for _, register := range []int{in.A, in.B, in.C} {
				if register < 0 || register >= regs {
					t.Errorf("%s: %+v; there are %d registers", name, in, regs)
				}
			}
		}
		slices.Sort(met)
		slices.Sort(sites[name])
		if !slices.Equal(met, sites[name]) {
			t.Errorf("%s: instructions of the sites %v; want %v", name, met, sites[name])
		}
	}
}

// bones are what of a function's code never changes.
func bones(t testing.TB, m *vm.Machine, name string) []api.Instr {
	t.Helper()
	code := codeOf(t, m, name)
	for i, in := range code {
		if code[i].Form = 0; in.Site >= 0 {
			code[i].Op = 0
		} else if in.Form != 0 {
			t.Errorf("%s: %+v has a form, and no site", name, in)
		}
	}
	return code
}

// skeleton is that of all functions.
func skeleton(t testing.TB, m *vm.Machine, src string) [][]api.Instr {
	t.Helper()
	names, _ := functions(t, src)
	var list [][]api.Instr
	for _, name := range names {
		list = append(list, bones(t, m, name))
	}
	return list
}

func sameSkeleton(a, b [][]api.Instr) bool { return slices.EqualFunc(a, b, slices.Equal[[]api.Instr]) }

func TestCode(t *testing.T) {
	for _, x := range corpus() {
		m := load(t, x.src, plenty)
		first := skeleton(t, m, x.src)
		asked := func() {
			t.Helper()
			wantCode(t, m, x.src)
			if got := skeleton(t, m, x.src); !sameSkeleton(got, first) {
				t.Errorf("%s: other instructions:\n%v\nfirst\n%v", x.src, got, first)
			}
		}
		asked()
		for round := range 6 {
			start(t, m, "f", 50, x.args...)
			for s := range m.Steps() {
				asked()
				for i := range m.Sites() {
					if round > 2 && (int(s.Ticks)+i)%4 == 0 {
						wantForce(t, m, i, forms[(int(s.Ticks)+i+round)%3], api.OK)
						asked()
					}
				}
			}
			asked()
		}
		if other := load(t, x.src, 7); !sameSkeleton(skeleton(t, other, x.src), first) {
			t.Errorf("%s: another machine has other instructions", x.src)
		}
	}
}

func TestCodeDrawn(t *testing.T) {
	for seed := range int64(150) {
		src := drawn(seed)
		c := rand.New(rand.NewSource(seed))
		m := load(t, src, plenty)
		first := skeleton(t, m, src)
		for range 4 {
			run(t, m, "f", drawnArgs(c)...)
			for i := range m.Sites() {
				if c.Intn(3) == 0 {
					wantForce(t, m, i, c.Intn(3), api.OK)
				}
			}
			wantCode(t, m, src)
		}
		if !sameSkeleton(skeleton(t, m, src), first) || t.Failed() {
			t.Fatalf("seed %d:\n%s", seed, src)
		}
	}
}

// Each form has an Op of its own: an instruction that has a site is rewritten.
func TestCodeIsRewritten(t *testing.T) {
	for _, operator := range sited() {
		src := "fn f(a, b) { return a " + operator + " b; }"
		m := load(t, src, plenty)
		var ops []int
		see := func(form int) {
			t.Helper()
			code := codeOf(t, m, "f")
			i := slices.IndexFunc(code, func(in api.Instr) bool { return in.Site == 0 })
			if code[i].Form != form {
				t.Errorf("%s: %+v; want the form %d", operator, code[i], form)
			}
			ops = append(ops, code[i].Op)
		}
		see(api.Generic)
		for range 3 {
			run(t, m, "f", whole(1), whole(2))
		}
		see(api.Whole)
		wantForce(t, m, 0, api.Double, api.OK)
		see(api.Double)
		run(t, m, "f", double(one), double(one))
		see(api.Double)
		run(t, m, "f", double(one), null)
		see(api.Generic)
		if ops[0] == ops[1] || ops[1] == ops[2] || ops[0] == ops[2] || ops[2] != ops[3] || ops[0] != ops[4] {
			t.Errorf("%s: %v", operator, ops)
		}
	}
}

// Names that are none of a function.
func TestCodeOfNone(t *testing.T) {
	m := load(t, "let g; fn f(a) { return len(a) + g; } fn h() { }", plenty)
	for _, name := range []string{"", "g", "a", "len", "F", "f ", "fh", "h\x00"} {
		if code, e := m.Code(name); e != api.ErrFunc || len(code) != 0 {
			t.Errorf("Code(%q): %v, %d", name, code, e)
		}
		if regs, e := m.Regs(name); e != api.ErrFunc || regs != 0 {
			t.Errorf("Regs(%q): %d, %d", name, regs, e)
		}
	}
	for _, x := range []struct {
		name string
		most int
	}{{"f", 3}, {"h", 0}} {
		if regs, e := m.Regs(x.name); e != api.OK || regs > x.most {
			t.Errorf("Regs(%s): %d, %d", x.name, regs, e)
		}
	}
}

// Code and registers within a run, where they are asked for a function that waits, and for one that was never called.
func TestCodeWithinRuns(t *testing.T) {
	src := "fn f(n) { if n > 0 { return n + f(n - 1); } return g(n); } fn g(n) { return n * 2; } fn never(a) { return a - 1; }"
	m := load(t, src, plenty)
	start(t, m, "f", plenty, whole(9))
	for range m.Steps() {
		wantCode(t, m, src)
	}
	wantCode(t, m, src)
}

// Functions at the limits: MaxRegs registers, MaxParams parameters, MaxConsts constants.
func TestCodeAtLimits(t *testing.T) {
	const half = api.MaxRegs / 2
	for _, x := range []example{
		{src: "fn f() { " + many(api.MaxRegs-2, "let v# = #; ") + "return " + many(api.MaxRegs-2, "v# + ") + "0; }"},
		{src: "fn f() { " + many(half-1, "let v# = #; ") + "return " + many(half, "(1# + ") + "0" + strings.Repeat(")", half) + "; }"},
		{src: "fn f() { return " + many(50, "(# + ") + "0" + strings.Repeat(")", 50) + "; }"},
		{src: "fn f() { return " + strings.Repeat("(", 50) + "0" + many(50, " - #)") + "; }"},
		{src: "fn f() { let s = 0; " + many(api.MaxConsts-1, "s = s + 1#; ") + "return s; }"},
		{src: "fn f() { " + many(20, "for i# in 0..1 { ") + "out i0 + i19; " + strings.Repeat("} ", 20) + "}"},
		{"fn f(" + strings.TrimSuffix(many(api.MaxParams, "p#, "), ", ") + ") { return " + many(api.MaxParams, "p# * ") + "2; }", slices.Repeat(raws(whole(2)), api.MaxParams)},
		{src: "fn f() { " + many(40, "if true { let a = #; ") + "out a; return f(); " + strings.Repeat("} ", 40) + "}"},
	} {
		wantAlike(t, x, plenty, enough)
		m := load(t, x.src, plenty)
		wantCode(t, m, x.src)
	}
}
