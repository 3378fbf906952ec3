package walk_test

import (
	"fmt"
	"slices"
	"strconv"
	"strings"
	"testing"

	"casket/api"
	"casket/walk"
)

// mark stands in a source ahead of the token at which something is told; it is no byte of the source.
const mark = "@"

// parted is a source without its mark, and the place of that.
func parted(marked string) (src string, at int) {
	return strings.Replace(marked, mark, "", 1), max(strings.Index(marked, mark), 0)
}

// Raw values.

var null = api.Raw{}

func whole(i int64) api.Raw { return api.Raw{Kind: api.Int, Int: i} }

func double(bits uint64) api.Raw { return api.Raw{Kind: api.Float, Bits: bits} }

func text(s string) api.Raw { return api.Raw{Kind: api.Text, Text: s} }

func truth(b bool) api.Raw {
	if b {
		return api.Raw{Kind: api.Bool, Int: 1}
	}
	return api.Raw{Kind: api.Bool}
}

// thing is one as it goes out.
func thing(kind, ref, n int) api.Raw { return api.Raw{Kind: kind, Ref: ref, Len: n} }

func raws(list ...api.Raw) []api.Raw { return list }

// filler is a string of n bytes.
func filler(n int) string { return strings.Repeat("x", n) }

// plenty is more than most runs need: units, and fuel.
const plenty = 1000

func load(t *testing.T, src string, units int) *walk.Machine {
	t.Helper()
	m, fault := walk.New(src, units)
	if m == nil || fault != (api.Fault{}) {
		t.Fatalf("New(%.200q, %d): %v", src, units, fault)
	}
	return m
}

func start(t *testing.T, m *walk.Machine, name string, fuel int64, args ...api.Raw) {
	t.Helper()
	if e := m.Start(name, args, fuel); e != api.OK {
		t.Fatalf("Start(%s, %s, %d) is %d", name, short(args), fuel, e)
	}
}

func run(t *testing.T, m *walk.Machine, name string, args ...api.Raw) api.End {
	t.Helper()
	end, e := m.Run(name, args, plenty)
	if e != api.OK {
		t.Fatalf("Run(%s, %s) is %d", name, short(args), e)
	}
	return end
}

// value is what a run answers that is to go well.
func value(t *testing.T, m *walk.Machine, name string, args ...api.Raw) api.Raw {
	t.Helper()
	end := run(t, m, name, args...)
	if end.Code != api.OK {
		t.Errorf("Run(%s, %s) has ended with %d at %d", name, short(args), end.Code, end.At)
	}
	return end.Value
}

func sameEnd(a, b api.End) bool {
	return a.Code == b.Code && a.At == b.At && a.Ticks == b.Ticks && a.Value == b.Value && slices.Equal(a.Out, b.Out)
}

func sameState(a, b api.State) bool {
	return a.Ticks == b.Ticks && a.Depth == b.Depth && a.At == b.At && a.Out == b.Out && slices.Equal(a.Vars, b.Vars)
}

// wantIdle asks a machine without a run for what only a run has.
func wantIdle(t *testing.T, m *walk.Machine) {
	t.Helper()
	if m.Step() {
		t.Error("Step is true without a run")
	}
	if s, ok := m.State(); ok || !sameState(s, api.State{}) {
		t.Errorf("State without a run: %v, %v", s, ok)
	}
	for s := range m.Steps() {
		t.Errorf("Steps without a run: %v", s)
	}
}

func wantEnded(t *testing.T, m *walk.Machine, want api.End) {
	t.Helper()
	for range 2 {
		if end, ok := m.End(); !ok || !sameEnd(end, want) {
			t.Errorf("End: %s, %v; want %s", short(end), ok, short(want))
		}
	}
	wantIdle(t, m)
}

func wantNoEnd(t *testing.T, m *walk.Machine) {
	t.Helper()
	if end, ok := m.End(); ok || !sameEnd(end, api.End{}) {
		t.Errorf("End: %s, %v; want none", short(end), ok)
	}
}

func wantReach(t *testing.T, m *walk.Machine, want int) {
	t.Helper()
	if got := m.Reach(); got != want {
		t.Errorf("Reach is %d; want %d", got, want)
	}
}

func wantGlobal(t *testing.T, m *walk.Machine, name string, want api.Raw) {
	t.Helper()
	if got, e := m.Global(name); got != want || e != api.OK {
		t.Errorf("Global(%s): %s, %d; want %s", name, short(got), e, short(want))
	}
}

func wantNoGlobal(t *testing.T, m *walk.Machine, name string, want api.Errno) {
	t.Helper()
	if got, e := m.Global(name); got != null || e != want {
		t.Errorf("Global(%q): %s, %d; want %d", name, short(got), e, want)
	}
}

func wantSet(t *testing.T, m *walk.Machine, name string, r api.Raw, want api.Errno) {
	t.Helper()
	if e := m.SetGlobal(name, r); e != want {
		t.Errorf("SetGlobal(%q, %s) is %d; want %d", name, short(r), e, want)
	}
}

func wantPeek(t *testing.T, m *walk.Machine, ref int, i int64, want api.Raw) {
	t.Helper()
	if got, e := m.Peek(ref, i); got != want || e != api.OK {
		t.Errorf("Peek(%d, %d): %s, %d; want %s", ref, i, short(got), e, short(want))
	}
}

func wantNoPeek(t *testing.T, m *walk.Machine, ref int, i int64, want api.Errno) {
	t.Helper()
	if got, e := m.Peek(ref, i); got != null || e != want {
		t.Errorf("Peek(%d, %d): %s, %d; want %d", ref, i, short(got), e, want)
	}
}

func wantPoke(t *testing.T, m *walk.Machine, ref int, i int64, r api.Raw, want api.Errno) {
	t.Helper()
	if e := m.Poke(ref, i, r); e != want {
		t.Errorf("Poke(%d, %d, %s) is %d; want %d", ref, i, short(r), e, want)
	}
}

func wantRelease(t *testing.T, m *walk.Machine, ref int, want api.Errno) {
	t.Helper()
	if e := m.Release(ref); e != want {
		t.Errorf("Release(%d) is %d; want %d", ref, e, want)
	}
}

// wantNoStart asks Start and Run.
func wantNoStart(t *testing.T, m *walk.Machine, name string, args []api.Raw, fuel int64, want api.Errno) {
	t.Helper()
	if e := m.Start(name, args, fuel); e != want {
		t.Errorf("Start(%q, %s, %d) is %d; want %d", name, short(args), fuel, e, want)
	}
	if end, e := m.Run(name, args, fuel); e != want || !sameEnd(end, api.End{}) {
		t.Errorf("Run(%q, %s, %d): %s, %d; want %d", name, short(args), fuel, short(end), e, want)
	}
}

// ending is how a run of f ends, with plenty of units and fuel. The place is the mark's.
type ending struct {
	src   string
	args  []api.Raw
	code  api.Errno
	ticks int64
	value api.Raw
	out   string // the lines, with blanks between
}

func (x ending) end() api.End {
	_, at := parted(x.src)
	return api.End{Code: x.code, At: at, Ticks: x.ticks, Value: x.value, Out: strings.Fields(x.out)}
}

func wantEndings(t *testing.T, list ...ending) {
	t.Helper()
	for _, x := range list {
		src, _ := parted(x.src)
		wantRun(t, src, x.args, plenty, plenty, x.end())
	}
}

// wantRun asks for a run at once, and step by step; both beside the model.
func wantRun(t *testing.T, src string, args []api.Raw, units int, fuel int64, want api.End) {
	t.Helper()
	m := load(t, src, units)
	got, e := m.Run("f", args, fuel)
	if e != api.OK || !sameEnd(got, want) {
		t.Errorf("%.300s\nwith %s, %d units, fuel %d: %s, %d\nwant %s", src, short(args), units, fuel, short(got), e, short(want))
	}
	wantEnded(t, m, got)
	if told := newModel(t, src, units).run("f", args, fuel); !sameEnd(told.end, got) {
		t.Errorf("%.300s\nwith %s, %d units, fuel %d: %s\nthe model: %s", src, short(args), units, fuel, short(got), short(told.end))
	}
	m = load(t, src, units)
	start(t, m, "f", fuel, args...)
	n := int64(0)
	for m.Step() {
		n++
		if s, ok := m.State(); !ok || s.Ticks != n {
			t.Errorf("%.300s: State %v, %v behind %d ticks", src, s, ok, n)
		}
	}
	wantEnded(t, m, got)
}

// short is what is told of something that may have long strings in it.
func short(x any) string {
	told := fmt.Sprint(x)
	if len(told) > 300 {
		return told[:300] + ".."
	}
	return told
}

// many is a text for each number from 0 on: # stands in it for the number.
func many(n int, form string) string {
	var list strings.Builder
	for i := range n {
		list.WriteString(strings.ReplaceAll(form, "#", strconv.Itoa(i)))
	}
	return list.String()
}

// indexOf is where a part of a source stands that is there.
func indexOf(t *testing.T, src, part string) int {
	t.Helper()
	at := strings.Index(src, part)
	if at < 0 {
		t.Fatalf("%s is not in %s", part, src)
	}
	return at
}
