package watch_test

import (
	"fmt"
	"reflect"
	"slices"
	"testing"

	"casket/api"
	"casket/vm"
	"casket/walk"
	"casket/watch"
)

// Raw values.

var null = api.Raw{}

// Patterns.
const (
	half = 0x3fe0000000000000
	one  = 0x3ff0000000000000
)

func whole(i int64) api.Raw { return api.Raw{Kind: api.Int, Int: i} }

func double(bits uint64) api.Raw { return api.Raw{Kind: api.Float, Bits: bits} }

var yes = api.Raw{Kind: api.Bool, Int: 1}

func text(s string) api.Raw { return api.Raw{Kind: api.Text, Text: s} }

// thing is one as it goes out.
func thing(kind, ref, n int) api.Raw { return api.Raw{Kind: kind, Ref: ref, Len: n} }

func raws(list ...api.Raw) []api.Raw { return list }

// plenty is more than most runs need: units, and fuel.
const plenty = 1000

// machine is one of casket's own, of either kind.
type machine interface {
	watch.Machine
	Run(name string, args []api.Raw, fuel int64) (api.End, api.Errno)
	Global(name string) (api.Raw, api.Errno)
	SetGlobal(name string, r api.Raw) api.Errno
	Release(ref int) api.Errno
	Reach() int
}

// Kinds of machines.
const (
	tree = "tree"
	regs = "regs"
)

var kinds = []string{tree, regs}

// open is a machine of a source that is taken.
func open(t testing.TB, src string, units int, kind string) machine {
	t.Helper()
	var m machine
	var fault api.Fault
	if kind == tree {
		m, fault = walk.New(src, units)
	} else {
		m, fault = vm.New(src, units)
	}
	if fault != (api.Fault{}) {
		t.Fatalf("New(%q, %d): %v", src, units, fault)
	}
	return m
}

// begun is a machine whose run of f is under way, and has not ticked.
func begun(t testing.TB, src, kind string, args ...api.Raw) machine {
	t.Helper()
	m := open(t, src, plenty, kind)
	start(t, m, "f", plenty, args...)
	return m
}

func start(t testing.TB, m watch.Machine, name string, fuel int64, args ...api.Raw) {
	t.Helper()
	if e := m.Start(name, args, fuel); e != api.OK {
		t.Fatalf("Start(%s, %s, %d) is %d", name, short(args), fuel, e)
	}
}

// step makes so many Steps, which must be true.
func step(t testing.TB, m watch.Machine, n int) {
	t.Helper()
	for i := range n {
		if !m.Step() {
			t.Fatalf("Step %d of %d is false", i+1, n)
		}
	}
}

// trace is all that a run tells, Step by Step.
type trace struct {
	states []api.State
	end    api.End
}

// byHand goes to the end of the run that is under way.
func byHand(t testing.TB, m watch.Machine) trace {
	t.Helper()
	var x trace
	for m.Step() {
		s, ok := m.State()
		if !ok {
			t.Fatal("no State behind a Step that was true")
		}
		x.states = append(x.states, s)
	}
	end, ok := m.End()
	if !ok {
		t.Fatal("no End behind a Step that was false")
	}
	x.end = end
	return x
}

// traced is the trace of a run of f, by a machine that nothing else is asked of.
func traced(t testing.TB, src, kind string, fuel int64, args ...api.Raw) trace {
	t.Helper()
	m := open(t, src, plenty, kind)
	start(t, m, "f", fuel, args...)
	return byHand(t, m)
}

// counts are those of the places of a trace, worked out in another way than by telling ticks apart one by one.
func (x trace) counts() []api.Count {
	var places []int
	for _, s := range x.states {
		places = append(places, s.At)
	}
	slices.Sort(places)
	var list []api.Count
	for i, at := range places {
		if i == 0 || at != places[i-1] {
			list = append(list, api.Count{At: at})
		}
		list[len(list)-1].N++
	}
	return list
}

// until is where a run that has made so many ticks comes to, by going on to one of these places; false: to its end.
func (x trace) until(made int, at []int) (int, bool) {
	for made++; made <= len(x.states); made++ {
		if slices.Contains(at, x.states[made-1].At) {
			return made, true
		}
	}
	return made, false
}

// over is where it comes to by going over what is called; it has ticked.
func (x trace) over(made int) (int, bool) {
	depth := x.states[made-1].Depth
	for made++; made <= len(x.states); made++ {
		if x.states[made-1].Depth <= depth {
			return made, true
		}
	}
	return made, false
}

// apart is what Apart must tell of two traces.
func (x trace) apart(y trace) (int64, bool) {
	n := min(len(x.states), len(y.states))
	for i := range n {
		if !sameState(x.states[i], y.states[i]) {
			return int64(i + 1), true
		}
	}
	if len(x.states) != len(y.states) {
		return int64(n + 1), true
	}
	x.end.Value.Ref, y.end.Value.Ref = 0, 0
	return int64(n), !sameEnd(x.end, y.end)
}

// sameState looks at all fields; nil and empty lists are one.
func sameState(a, b api.State) bool {
	if len(a.Vars)+len(b.Vars) == 0 {
		a.Vars, b.Vars = nil, nil
	}
	return reflect.DeepEqual(a, b)
}

func sameEnd(a, b api.End) bool {
	if len(a.Out)+len(b.Out) == 0 {
		a.Out, b.Out = nil, nil
	}
	return reflect.DeepEqual(a, b)
}

// short is what is told of something that may have long strings in it.
func short(x any) string {
	told := fmt.Sprintf("%+v", x)
	if len(told) > 400 {
		return told[:400] + ".."
	}
	return told
}

func wantProfile(t testing.TB, m watch.Machine, name string, args []api.Raw, fuel int64, counts []api.Count, end api.End) {
	t.Helper()
	l, e, code := watch.Profile(m, name, args, fuel)
	if code != api.OK || !slices.Equal(l, counts) || !sameEnd(e, end) {
		t.Errorf("Profile(%s, %s, %d): %v, %s, %d\nwant %v, %s", name, short(args), fuel, l, short(e), code, counts, short(end))
	}
}

// wantNoProfile asks for an error, and that nothing is told beside it.
func wantNoProfile(t testing.TB, m watch.Machine, name string, args []api.Raw, fuel int64, want api.Errno) {
	t.Helper()
	l, e, code := watch.Profile(m, name, args, fuel)
	if code != want || len(l) != 0 || e.Out != nil || !sameEnd(e, api.End{}) {
		t.Errorf("Profile(%s, %s, %d): %v, %s, %d; want %d", name, short(args), fuel, l, short(e), code, want)
	}
}

// wantStand asks that a machine stands as a trace does behind so many ticks: nothing has gone further, or less far.
func wantStand(t testing.TB, m watch.Machine, x trace, made int) {
	t.Helper()
	s, ok := m.State()
	want := api.State{}
	under := made > 0 && made <= len(x.states)
	if under {
		want = x.states[made-1]
	}
	if ok != under || !sameState(s, want) {
		t.Fatalf("State: %s, %v; want %s, %v", short(s), ok, short(want), under)
	}
	end, ended := m.End()
	if made <= len(x.states) && ended {
		t.Fatal("the run has ended:", short(end))
	}
	if made > len(x.states) && (!ended || !sameEnd(end, x.end)) {
		t.Fatalf("End: %s, %v; want %s", short(end), ended, short(x.end))
	}
}

// wantSeen is asked behind Until or Over: the answer, and where the machine stands, are those of a trace behind so many ticks.
func wantSeen(t testing.TB, m watch.Machine, s api.State, ok bool, x trace, made int) {
	t.Helper()
	want := api.State{}
	if made <= len(x.states) {
		want = x.states[made-1]
	}
	if ok != (made <= len(x.states)) || !ok && s.Vars != nil || !sameState(s, want) {
		t.Fatalf("%s, %v; want %s, behind %d ticks of %d", short(s), ok, short(want), made, len(x.states))
	}
	wantStand(t, m, x, made)
}

func wantUntil(t testing.TB, m watch.Machine, at []int, x trace, made int) {
	t.Helper()
	s, ok := watch.Until(m, at)
	wantSeen(t, m, s, ok, x, made)
}

func wantOver(t testing.TB, m watch.Machine, x trace, made int) {
	t.Helper()
	s, ok := watch.Over(m)
	wantSeen(t, m, s, ok, x, made)
}

func wantApart(t testing.TB, a, b watch.Machine, name string, args []api.Raw, fuel int64, n int64, apart bool) {
	t.Helper()
	k, is, e := watch.Apart(a, b, name, args, fuel)
	if k != n || is != apart || e != api.OK {
		t.Errorf("Apart(%s, %s, %d): %d, %v, %d; want %d, %v", name, short(args), fuel, k, is, e, n, apart)
	}
}

func wantNoApart(t testing.TB, a, b watch.Machine, name string, args []api.Raw, fuel int64, want api.Errno) {
	t.Helper()
	if n, apart, e := watch.Apart(a, b, name, args, fuel); n != 0 || apart || e != want {
		t.Errorf("Apart(%s, %s, %d): %d, %v, %d; want %d", name, short(args), fuel, n, apart, e, want)
	}
}

// wantNoRun asks that none is under way: what a run forbids is allowed.
func wantNoRun(t testing.TB, m machine) {
	t.Helper()
	if s, ok := m.State(); ok || m.Step() || m.Release(-1) != api.ErrRef {
		t.Error("a run is under way:", short(s))
	}
}

// wantRest asks that what is left of a run is what a trace tells behind so many ticks.
func wantRest(t testing.TB, m watch.Machine, x trace, made int) {
	t.Helper()
	rest := byHand(t, m)
	if !slices.EqualFunc(rest.states, x.states[made:], sameState) || !sameEnd(rest.end, x.end) {
		t.Errorf("%s\nwant %s, %s", short(rest), short(x.states[made:]), short(x.end))
	}
}
