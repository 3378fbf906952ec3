package watch_test

import (
	"fmt"
	"math/rand"
	"slices"
	"strings"
	"testing"

	"casket/api"
	"casket/watch"
)

// Machines that are no casket's own: they go through what is written down.

// script hands out its own lists, which a machine of casket's never does.
type script struct {
	trace
	refuse  api.Errno
	name    string // as it stands in the log
	log     *[]string
	running bool
	made    int
}

func written(x trace) *script { return &script{trace: x, log: new([]string)} }

func (s *script) note(what ...any) {
	*s.log = append(*s.log, s.name+"."+strings.TrimSuffix(fmt.Sprintln(what...), "\n"))
}

func (s *script) Start(name string, args []api.Raw, fuel int64) api.Errno {
	s.note("Start", name, args, fuel)
	switch {
	case s.running:
		return api.ErrState
	case s.refuse != api.OK:
		return s.refuse
	}
	s.running, s.made = true, 0
	return api.OK
}

func (s *script) Step() bool {
	s.note("Step")
	if !s.running || s.made == len(s.states) {
		s.running = false
		return false
	}
	s.made++
	return true
}

func (s *script) State() (api.State, bool) {
	if !s.running || s.made == 0 {
		return api.State{}, false
	}
	return s.states[s.made-1], true
}

func (s *script) End() (api.End, bool) {
	if s.running {
		return api.End{}, false
	}
	return s.end, true
}

// going is one whose run is under way, and has made so many ticks.
func going(x trace, made int) *script {
	s := written(x)
	s.running, s.made = true, made
	return s
}

// at is a trace that ticks at these places.
func at(places ...int) trace {
	var x trace
	for i, place := range places {
		x.states = append(x.states, api.State{Ticks: int64(i + 1), Depth: 1, At: place})
	}
	x.end.Ticks = int64(len(places))
	return x
}

// deep is one in which so many functions are under way.
func deep(depths ...int) trace {
	x := at(depths...)
	for i, depth := range depths {
		x.states[i].At, x.states[i].Depth = 7, depth
	}
	return x
}

func TestProfileOfWritten(t *testing.T) {
	const most = 1<<63 - 1
	for _, c := range []struct {
		x    trace
		want []api.Count
	}{
		{at(), nil},
		{at(0), []api.Count{{At: 0, N: 1}}},
		{at(5, 5, 5, 5), []api.Count{{At: 5, N: 4}}},
		{at(9, 8, 7, 6), []api.Count{{At: 6, N: 1}, {At: 7, N: 1}, {At: 8, N: 1}, {At: 9, N: 1}}},
		{at(2, 1, 2, 3, 1, 2), []api.Count{{At: 1, N: 2}, {At: 2, N: 3}, {At: 3, N: 1}}},
		{at(most, 0, -most-1, -1, 0, most), []api.Count{{At: -most - 1, N: 1}, {At: -1, N: 1}, {At: 0, N: 2}, {At: most, N: 2}}},
		{at(10, 9, 100, 10), []api.Count{{At: 9, N: 1}, {At: 10, N: 2}, {At: 100, N: 1}}},
		{deep(1, 2, 1, 3, 9), []api.Count{{At: 7, N: 5}}}, // a place that several functions have is one
	} {
		c.x.end.Value, c.x.end.Out = thing(api.Row, 5, 2), []string{"", "x"}
		m := written(c.x)
		for range 2 {
			wantProfile(t, m, "f", nil, 9, c.want, c.x.end)
		}
		m.refuse = api.ErrMemory
		wantNoProfile(t, m, "f", nil, 9, api.ErrMemory)
		wantNoProfile(t, going(c.x, 0), "f", nil, 9, api.ErrState)
	}
}

// Long runs with many places are no matter.
func TestProfileOfMany(t *testing.T) {
	var places []int
	for i := range 300000 {
		places = append(places, -i)
	}
	l, _, e := watch.Profile(written(at(slices.Concat(places, places[5:])...)), "f", nil, 9)
	if e != api.OK || len(l) != len(places) || l[0] != (api.Count{At: -299999, N: 2}) || l[len(l)-1] != (api.Count{At: 0, N: 1}) {
		t.Error(len(l), e)
	}
	m := written(at(places...))
	start(t, m, "f", 9)
	if s, ok := watch.Until(m, places[200000:]); !ok || s.Ticks != 200001 {
		t.Error(short(s), ok)
	}
}

// What is handed in comes to each machine as it is.
func TestStartIsHandedAll(t *testing.T) {
	var log []string
	x := at(1)
	a, b := &script{trace: x, name: "a", log: &log}, &script{trace: x, name: "b", log: &log}
	watch.Profile(a, "some name", raws(whole(1), text("two")), -1<<63)
	watch.Apart(a, b, "", nil, 1<<63-1)
	want := []string{
		"a.Start some name [{2 1 0  0 0} {4 0 0 two 0 0}] -9223372036854775808", "a.Step", "a.Step",
		"a.Start  [] 9223372036854775807", "b.Start  [] 9223372036854775807", "a.Step", "b.Step", "a.Step", "b.Step",
	}
	if !slices.Equal(log, want) {
		t.Errorf("%q", log)
	}
}

// No Step is made beyond those that are asked for; none at all where nothing is to be done.
func TestStepsThatAreMade(t *testing.T) {
	x := at(1, 2, 3, 4)
	for _, c := range []struct {
		name string
		do   func(m *script)
		want int
	}{
		{"Until the first", func(m *script) { watch.Until(m, []int{1}) }, 1},
		{"Until the third", func(m *script) { watch.Until(m, []int{4, 3}) }, 3},
		{"Until the end", func(m *script) { watch.Until(m, nil) }, 5},
		{"Over ahead of the first", func(m *script) { watch.Over(m) }, 0},
		{"Over one", func(m *script) { m.made = 2; watch.Over(m) }, 1},
		{"Over the end", func(m *script) { m.made = 4; watch.Over(m) }, 1},
		{"Over behind the end", func(m *script) { m.running = false; watch.Over(m) }, 0},
		{"Until behind the end", func(m *script) { m.running = false; watch.Until(m, []int{1}) }, 1},
		{"Profile", func(m *script) { m.running = false; watch.Profile(m, "f", nil, 9); *m.log = (*m.log)[1:] }, 5},
		{"Profile that is refused", func(m *script) { watch.Profile(m, "f", nil, 9); *m.log = (*m.log)[1:] }, 0},
	} {
		m := going(x, 0)
		c.do(m)
		if !slices.Equal(*m.log, slices.Repeat([]string{".Step"}, c.want)) {
			t.Error(c.name, *m.log)
		}
	}
}

func TestOverWritten(t *testing.T) {
	for _, c := range []struct {
		depths   []int
		made, to int
	}{
		{[]int{1, 1}, 1, 2},
		{[]int{1, 2, 1}, 1, 3},
		{[]int{1, 2, 3, 2, 1}, 1, 5},
		{[]int{1, 2, 3, 2, 1}, 2, 4},
		{[]int{1, 2, 3, 2, 1}, 3, 4},
		{[]int{9, 10, 3, 10}, 1, 3}, // fewer at once
		{[]int{9, 10, 8, 10}, 2, 3},
		{[]int{9, 10, 11, 12}, 1, 5},
		{[]int{9, 10, 11, 12}, 4, 5},
		{[]int{0, 1, 0}, 1, 3},
		{[]int{-1, 0, -2}, 1, 3},
		{[]int{5}, 1, 2},
	} {
		x := deep(c.depths...)
		m := going(x, c.made)
		wantOver(t, m, x, c.to)
	}
}

// model has something in each field.
func model() trace {
	vars := raws(whole(5), text("v"), thing(api.Row, 0, 4), double(half))
	return trace{
		[]api.State{{Ticks: 1, Depth: 1, At: 3}, {Ticks: 2, Depth: 2, At: 9, Vars: vars, Out: 1}, {Ticks: 3, Depth: 1, At: 9, Vars: vars[:1], Out: 2}},
		api.End{Code: api.ErrIndex, At: 12, Ticks: 3, Value: api.Raw{Kind: api.Row, Int: 1, Bits: 2, Text: "t", Ref: 1, Len: 2}, Out: []string{"x", "y"}},
	}
}

// apartOf holds the model against one that is changed, both ways round.
func apartOf(t testing.TB, name string, change func(x *trace), n int64, apart bool) {
	t.Helper()
	x := model()
	for i := range x.states {
		x.states[i].Vars = slices.Clone(x.states[i].Vars)
	}
	change(&x)
	for _, swap := range []bool{false, true} {
		var log []string
		a, b := written(model()), written(x)
		if swap {
			a, b = b, a
		}
		a.name, b.name, a.log, b.log = "a", "b", &log, &log
		wantApart(t, a, b, "f", nil, 9, n, apart)
		steps := int(n)
		if !a.running && !b.running {
			steps++ // the one with which both ended
		}
		if !slices.Equal(log[2:], slices.Repeat([]string{"a.Step", "b.Step"}, steps)) {
			t.Errorf("%s: %v", name, log)
		}
		if t.Failed() {
			t.Fatal(name)
		}
	}
}

func TestApartOfWritten(t *testing.T) {
	apartOf(t, "nothing", func(x *trace) {}, 3, false)
	for i := range model().states {
		n := int64(i + 1)
		state := func(name string, change func(s *api.State)) {
			t.Helper()
			apartOf(t, fmt.Sprint(name, " of state ", i), func(x *trace) { change(&x.states[i]) }, n, true)
		}
		state("Ticks", func(s *api.State) { s.Ticks++ })
		state("Depth", func(s *api.State) { s.Depth-- })
		state("At", func(s *api.State) { s.At = -s.At })
		state("Out", func(s *api.State) { s.Out++ })
		state("a variable more", func(s *api.State) { s.Vars = append(s.Vars, null) })
		for k := range model().states[i].Vars {
			state("a variable's Kind", func(s *api.State) { s.Vars[k].Kind++ })
			state("a variable's Int", func(s *api.State) { s.Vars[k].Int++ })
			state("a variable's Bits", func(s *api.State) { s.Vars[k].Bits++ })
			state("a variable's Text", func(s *api.State) { s.Vars[k].Text += "x" })
			state("a variable's Ref", func(s *api.State) { s.Vars[k].Ref++ })
			state("a variable's Len", func(s *api.State) { s.Vars[k].Len++ })
			state("a variable less", func(s *api.State) { s.Vars = slices.Delete(s.Vars, k, k+1) })
		}
		apartOf(t, "an end ahead", func(x *trace) { x.states = x.states[:i] }, n, true)
	}
	apartOf(t, "variables in another order", func(x *trace) { slices.Reverse(x.states[1].Vars) }, 2, true)
	apartOf(t, "one more", func(x *trace) { x.states = append(x.states, x.states[2]) }, 4, true)
	apartOf(t, "an empty list", func(x *trace) { x.states[0].Vars = []api.Raw{} }, 3, false)
}

func TestApartEndsOfWritten(t *testing.T) {
	end := func(name string, change func(e *api.End), apart bool) {
		t.Helper()
		apartOf(t, name, func(x *trace) { change(&x.end) }, 3, apart)
	}
	end("Code", func(e *api.End) { e.Code = api.ErrType }, true)
	end("no Code", func(e *api.End) { e.Code = api.OK }, true)
	end("At", func(e *api.End) { e.At++ }, true)
	end("Ticks", func(e *api.End) { e.Ticks++ }, true)
	end("the value's Kind", func(e *api.End) { e.Value.Kind-- }, true)
	end("the value's Int", func(e *api.End) { e.Value.Int-- }, true)
	end("the value's Bits", func(e *api.End) { e.Value.Bits-- }, true)
	end("the value's Text", func(e *api.End) { e.Value.Text = "" }, true)
	end("the value's Ref", func(e *api.End) { e.Value.Ref = 77 }, false)
	end("the value's Len", func(e *api.End) { e.Value.Len++ }, true)
	end("Ref and Len", func(e *api.End) { e.Value.Ref++; e.Value.Len++ }, true)
	end("no lines", func(e *api.End) { e.Out = nil }, true)
	end("a line less", func(e *api.End) { e.Out = e.Out[:1] }, true)
	end("a line more", func(e *api.End) { e.Out = []string{"x", "y", ""} }, true)
	end("another line", func(e *api.End) { e.Out = []string{"x", "z"} }, true)
	end("lines in another order", func(e *api.End) { e.Out = []string{"y", "x"} }, true)
	end("lines cut otherwise", func(e *api.End) { e.Out = []string{"xy", ""} }, true)

	// Runs of no Step have Ends, too; nil and empty lists are one.
	wantApart(t, written(trace{}), written(trace{}), "f", nil, 0, 0, false)
	wantApart(t, written(trace{}), written(trace{end: api.End{Out: []string{}}}), "f", nil, 0, 0, false)
	wantApart(t, written(trace{}), written(trace{end: api.End{Out: []string{""}}}), "f", nil, 0, 0, true)
	wantApart(t, written(trace{}), written(trace{end: api.End{Code: api.ErrFuel}}), "f", nil, 0, 0, true)
	nought := trace{states: []api.State{{}}} // a tick is one, even if all that it tells is 0
	wantApart(t, written(nought), written(nought), "f", nil, 0, 1, false)
	wantApart(t, written(nought), written(trace{}), "f", nil, 0, 1, true)
	wantApart(t, written(trace{}), written(nought), "f", nil, 0, 1, true)
	wantApart(t, written(at()), written(at(1)), "f", nil, 0, 1, true)
	wantApart(t, written(at(1)), written(at()), "f", nil, 0, 1, true)
}

func TestApartWrittenRefuses(t *testing.T) {
	no, ready := written(model()), written(model())
	no.refuse = api.ErrLine
	wantNoApart(t, no, ready, "f", nil, 9, api.ErrLine)
	if len(*ready.log) != 0 || ready.running {
		t.Error("b was asked:", *ready.log)
	}
	wantNoApart(t, ready, no, "f", nil, 9, api.ErrLine)
	if !slices.Equal(*ready.log, []string{".Start f [] 9"}) || !ready.running || len(*no.log) != 2 {
		t.Error("Steps were made:", *ready.log, *no.log)
	}
	wantNoApart(t, ready, written(model()), "f", nil, 9, api.ErrState)
}

// A machine of casket's is held against one in which its run is written down.
func TestApartOfBoth(t *testing.T) {
	for _, kind := range kinds {
		x := traced(t, winding, kind, plenty, whole(3))
		m := open(t, winding, plenty, kind)
		wantApart(t, m, written(x), "f", raws(whole(3)), plenty, int64(len(x.states)), false)
		for i := range x.states {
			y := trace{slices.Clone(x.states), x.end}
			y.states[i].Out++
			n := int64(i + 1)
			wantApart(t, open(t, winding, plenty, kind), written(y), "f", raws(whole(3)), plenty, n, true)
			wantApart(t, written(y), open(t, winding, plenty, kind), "f", raws(whole(3)), plenty, n, true)
		}
	}
}

// drawnTrace has few places, depths and values, so that many are the same.
func drawnTrace(d *rand.Rand) trace {
	places := make([]int, d.Intn(9))
	x := at(places...)
	for i := range x.states {
		s := &x.states[i]
		s.At, s.Depth, s.Out = d.Intn(4)-1, d.Intn(4), d.Intn(20)/19
		for range d.Intn(3) / 2 {
			s.Vars = append(s.Vars, whole(int64(d.Intn(20)/19)))
		}
	}
	x.end.Value.Ref, x.end.Code = d.Intn(3), api.Errno(d.Intn(3)/2)
	return x
}

// near is one that differs hardly from another, or not at all.
func near(d *rand.Rand, x trace) trace {
	y := trace{slices.Clone(x.states), x.end}
	for range d.Intn(2) {
		if len(y.states) == 0 || d.Intn(6) == 0 {
			y.end.Ticks++
		} else if i := d.Intn(len(y.states)); d.Intn(3) == 0 {
			y.states = y.states[:i]
		} else {
			y.states[i].Depth++
		}
	}
	return y
}

// All that is asked of drawn machines is what going through the lists by hand tells.
func TestDrawnWritten(t *testing.T) {
	met := map[string]int{}
	d := rand.New(rand.NewSource(21))
	for range 20000 {
		x := drawnTrace(d)
		wantProfile(t, written(x), "f", nil, 9, x.counts(), x.end)
		m := going(x, 0)
		for made := 0; made <= len(x.states); {
			switch d.Intn(4) {
			case 0:
				if made > 0 {
					made, _ = x.over(made)
					wantOver(t, m, x, made)
				} else {
					wantNoOver(t, m)
				}
				met["over"]++
			case 1:
				made++
				if m.Step() != (made <= len(x.states)) {
					t.Fatal("Step")
				}
			default:
				at := []int{d.Intn(4) - 1, d.Intn(4) - 1}[:d.Intn(3)]
				made, _ = x.until(made, at)
				wantUntil(t, m, at, x, made)
				met["until"]++
			}
		}
		y := near(d, x)
		n, apart := x.apart(y)
		wantApart(t, written(x), written(y), "f", nil, 9, n, apart)
		wantApart(t, written(y), written(x), "f", nil, 9, n, apart)
		met[fmt.Sprint("apart ", apart)]++
		if t.Failed() {
			t.Fatal(short(x), short(y))
		}
	}
	for _, what := range []string{"over", "until", "apart true", "apart false"} {
		if met[what] < 1000 {
			t.Error(met)
		}
	}
}
