package vm_test

import (
	"math/rand"
	"slices"
	"strings"
	"testing"

	"casket/api"
	"casket/check"
)

// Promise 16.2: which sites there are, and what they are told.

// A site for each place that chapter 13 tells, rising; none of other operators.
func TestSitesOfSources(t *testing.T) {
	for _, x := range []struct {
		src    string
		places []int
	}{
		{"", nil},
		{"let g; fn f(a) { return a & 1 | ~a ^ 2 << a >> -1; }", nil},
		{"fn f(a) { return not (a or a and a[0]); }", nil},
		{"fn f(a, b) { return a + b; }", []int{22}},
		{"fn f(a) { return (a + 1) * (a - 2) & 3 | ~(a // 2); } fn g(a) { return a < 1 or a == 2 or a != 3; }", []int{20, 25, 30, 45, 73, 82, 92}},
		{"fn f(a) { a[1 - 1] = a / a % a; if a <= a { return a > a; } return a >= a; }", []int{14, 23, 27, 37, 53, 69}},
	} {
		m := load(t, x.src, plenty)
		var want []api.Site
		for _, at := range x.places {
			want = append(want, api.Site{At: at})
		}
		wantSites(t, m, want...)
	}
	for _, x := range corpus() {
		l, _ := check.Load(x.src)
		var places []int
		for _, s := range load(t, x.src, plenty).Sites() {
			places = append(places, s.At)
		}
		if !slices.Equal(places, check.Sites(l)) {
			t.Errorf("%s: %v; want %v", x.src, places, check.Sites(l))
		}
	}
}

// Each of the operators has a site: it is told once for each time that it is done, with both operands.
func TestSiteOfEachOperator(t *testing.T) {
	for _, operator := range strings.Fields("+ - * / // % < <= > >= == !=") {
		m := load(t, "fn f(a, b) { return a "+operator+" b; }", plenty)
		for n := range int64(5) {
			wantSites(t, m, siteOf(22, n))
			run(t, m, "f", whole(7), whole(2))
		}
		wantSites(t, m, api.Site{At: 22, Form: api.Whole, Generic: 3, Fast: 2})
		run(t, m, "f", double(one), whole(2))
		wantSites(t, m, api.Site{At: 22, Generic: 4, Fast: 2, Fails: 1})
		for range 4 {
			run(t, m, "f", double(one), double(half))
		}
		wantSites(t, m, api.Site{At: 22, Form: api.Double, Generic: 7, Fast: 3, Fails: 1})
		run(t, m, "f", whole(1<<50), whole(1)) // not small: neither of the two kinds
		wantSites(t, m, api.Site{At: 22, Generic: 8, Fast: 3, Fails: 2})
	}
}

// siteOf is a site that has met so many pairs of whole numbers.
func siteOf(at int, n int64) api.Site {
	s := api.Site{At: at, Generic: min(n, api.WarmUp), Fast: max(n-api.WarmUp, 0)}
	if n >= api.WarmUp {
		s.Form = api.Whole
	}
	return s
}

// It is told, too, if the operator is refused what it was given, or finds no room.
func TestSiteOfRefused(t *testing.T) {
	m := load(t, "fn f(a, b) { return a // b; }", 0)
	for range 2 {
		run(t, m, "f", null, null)
		run(t, m, "f", whole(1), whole(0))
	}
	wantSites(t, m, api.Site{At: 22, Generic: 4})
	for range 4 {
		if end := run(t, m, "f", whole(1), whole(0)); end.Code != api.ErrDivZero || end.At != 22 {
			t.Error(end)
		}
	}
	wantSites(t, m, api.Site{At: 22, Form: api.Whole, Generic: 6, Fast: 2})
	if end := run(t, m, "f", whole(-1<<47), whole(-1)); end.Code != api.ErrMemory || end.At != 22 {
		t.Error(end)
	}
	wantSites(t, m, api.Site{At: 22, Form: api.Whole, Generic: 6, Fast: 3})
}

// It is not told, if an operand could not be worked out, or need not be.
func TestSiteIsNotTold(t *testing.T) {
	for _, x := range []struct {
		src  string
		want []int64 // how often each operator is done
	}{
		{"fn f() { return (1 // 0) + 1; }", []int64{1, 0}},
		{"fn f() { return 1 + 1 // 0; }", []int64{0, 1}},
		{"fn f() { return 1 + nil[0]; }", []int64{0}},
		{"fn f() { return -nil + 1; }", []int64{0}},
		{"fn f() { return 1 + g(); } fn g() { return 2 - nil; }", []int64{0, 1}},
		{"fn f() { return f() + 1; }", []int64{0}},
		{"fn f() { return true or 1 == 1; }", []int64{0}},
		{"fn f() { return false and 1 == 1; }", []int64{0}},
		{"fn f() { return false or 1 == 1; }", []int64{1}},
		{"fn f() { return true and 1 == 1; }", []int64{1}},
		{"fn f() { return 1 == 1 or 2 == 2 and 3 == 3; }", []int64{1, 0, 0}},
		{"fn f() { return 1 == 2 or 2 == 2 and 3 == 3; }", []int64{1, 1, 1}},
		{"fn f() { return nil or 1 == 1; }", []int64{0}},
		{"fn f() { return \"abcdefgh\" + (\"abcdefgh\" + 1); }", []int64{0, 1}},
		{"fn f() { if false { 1 + 1; } else { 2 + 2; } return 3 + 3; 4 + 4; }", []int64{0, 1, 1, 0}},
		{"fn f() { for i in 0..3 { if i < 1 { continue; } i + i; break; i - i; } }", []int64{2, 1, 0}},
		{"fn f() { let n = 4; while n > 0 { n = n - 1; } }", []int64{5, 4}},
		{"fn f() { row(1 + 1)[2 - 2] = 3 * 3; }", []int64{1, 1, 1}},
		{"fn f() { row(1 + 1)[nil] = 3 * 3; }", []int64{1, 1}},
		{"fn f() { row(1 + 1)[-nil] = 3 * 3; }", []int64{1, 0}},
		{"fn f() { g(1 + 1, -nil, 1 + 1); } fn g(a, b, c) { return a + b; }", []int64{1, 0, 0}},
		{"fn f() { for i in 0 + 0..0 - 1 { i * i; } }", []int64{1, 1, 0}},
		{"fn f() { for i in 0 + 0..-nil - 1 { } }", []int64{1, 0}},
	} {
		m := load(t, x.src, plenty)
		run(t, m, "f")
		var got []int64
		for _, s := range m.Sites() {
			got = append(got, s.Generic+s.Fast)
		}
		if !slices.Equal(got, x.want) {
			t.Errorf("%s: %v; want %v", x.src, got, x.want)
		}
	}
}

// Sites go on from run to run, and are told within a run, too.
func TestSitesInSteps(t *testing.T) {
	src := "fn f() { for i in 0..5 { i + 1; } }"
	m := load(t, src, plenty)
	at := strings.Index(src, "+")
	wantSites(t, m, api.Site{At: at})
	start(t, m, "f", plenty)
	done := int64(0)
	for range 2 {
		for s := range m.Steps() {
			if src[s.At] == 'f' && s.Ticks > 3 { // a test: behind the block
				done++
			}
			wantSites(t, m, siteOf(at, done))
		}
		wantSites(t, m, siteOf(at, done))
		start(t, m, "f", plenty)
		wantSites(t, m, siteOf(at, done))
	}
	if done != 10 {
		t.Errorf("done %d times", done)
	}
}

// A site of a function that is called within a call of it: while one operator waits for its second operand, others of the same site are done, and turn its form.
func TestSiteOfCallsWithinCalls(t *testing.T) {
	m := load(t, "fn f(n) { if n > 1 { return n + f(n - 1); } return 1; }", plenty)
	if end := run(t, m, "f", whole(7)); end.Value != whole(28) {
		t.Error(end)
	}
	wantSites(t, m, siteOf(15, 7), siteOf(30, 6), siteOf(36, 6))
	// The innermost sums are of doubles, the outer ones of whole numbers and doubles.
	src := "fn f(n) { if n == 9 { return 0x1p+0; } if n > 5 { return float(n) + f(n + 1); } return n + int(f(n + 1)); }"
	m = load(t, src, plenty)
	if end := run(t, m, "f", whole(0)); end.Value != whole(0+1+2+3+4+5+6+7+8+1) {
		t.Error(end)
	}
	sites := m.Sites()
	if got := sites[2]; got != (api.Site{At: strings.Index(src, "+ f"), Form: api.Double, Generic: 3}) {
		t.Errorf("%+v", got)
	}
	if got := sites[4]; got != siteOf(strings.Index(src, "+ int"), 6) {
		t.Errorf("%+v", got)
	}
}

// Guards that fail: at MaxFails the site stays generic, but where it is forced.
func TestSiteFails(t *testing.T) {
	m := load(t, "fn f(a, b) { return a * b; }", plenty)
	want := api.Site{At: 22}
	for range api.MaxFails {
		for range api.WarmUp {
			run(t, m, "f", whole(3), whole(4))
		}
		want.Generic += api.WarmUp
		want.Form = api.Whole
		wantSites(t, m, want)
		run(t, m, "f", whole(3), double(one))
		want.Generic++
		want.Fails++
		want.Form = api.Generic
		wantSites(t, m, want)
	}
	for range 9 {
		run(t, m, "f", whole(3), whole(4))
		want.Generic++
		wantSites(t, m, want)
	}
	wantForce(t, m, 0, api.Whole, api.OK)
	run(t, m, "f", whole(3), whole(4))
	want.Form, want.Fast = api.Whole, 1
	wantSites(t, m, want)
}

// Drawn sources: at each tick each site is as chapter 14 says of the pairs that the oracle has met, whatever was forced on the way.
func TestSitesDrawn(t *testing.T) {
	ticks, fast, fails := 0, int64(0), 0
	for seed := range int64(700) {
		src := drawn(seed)
		c := rand.New(rand.NewSource(seed))
		m, o := load(t, src, plenty), newOracle(t, src, plenty)
		for known := true; known && c.Intn(4) > 0; {
			args, fuel := drawnArgs(c), int64(c.Intn(300))
			start(t, m, "f", fuel, args...)
			if e := o.machine.Start("f", args, api.MaxFuel); e != api.OK {
				t.Fatal(e)
			}
			for more := true; more; ticks++ {
				more = m.Step()
				went := o.step()
				if s, _ := m.State(); s.Depth == api.MaxDepth {
					known = false // the functions that stand for operators are one call too deep there
					break
				}
				if got, want := m.Sites(), o.tell(); !slices.Equal(got, want) {
					t.Fatalf("seed %d: %v\nwant %v\n%s", seed, got, want, src)
				}
				if went != more {
					end, _ := m.End()
					if known = false; end.Code != api.ErrFuel {
						t.Fatalf("seed %d: %v; the other source goes on\n%s", seed, end, src)
					}
				}
				if len(o.sites) > 0 && seed%2 == 0 && c.Intn(4) == 0 {
					i, form := c.Intn(len(o.sites)), forms[c.Intn(3)]
					o.sites[i].Force(form)
					wantForce(t, m, i, form, api.OK)
				}
			}
		}
		for _, s := range m.Sites() {
			fast, fails = fast+s.Fast, fails+s.Fails
		}
	}
	t.Log(ticks, "ticks;", fast, "fast;", fails, "fails")
	if fast < 1000 || fails < 100 {
		t.Error("the sources meet too little")
	}
}
