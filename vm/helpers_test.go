package vm_test

import (
	"fmt"
	"slices"
	"strconv"
	"strings"
	"testing"

	"casket/api"
	"casket/vm"
	"casket/walk"
)

// Raw values.

var null = api.Raw{}

func whole(i int64) api.Raw { return api.Raw{Kind: api.Int, Int: i} }

func double(bits uint64) api.Raw { return api.Raw{Kind: api.Float, Bits: bits} }

func text(s string) api.Raw { return api.Raw{Kind: api.Text, Text: s} }

func truth(b bool) api.Raw {
	if b {
		return api.Raw{Kind: api.Bool, Int: 1}
	}
	return api.Raw{Kind: api.Bool}
}

// thing is one as it goes out.
func thing(kind, ref, n int) api.Raw { return api.Raw{Kind: kind, Ref: ref, Len: n} }

func raws(list ...api.Raw) []api.Raw { return list }

// Patterns of some doubles.
const (
	one  = 0x3ff0000000000000
	half = 0x3fe0000000000000
)

// plenty is more than most runs need: units, and fuel.
const plenty = 1000

// forms are all that a site can have.
var forms = []int{api.Generic, api.Whole, api.Double}

func load(t testing.TB, src string, units int) *vm.Machine {
	t.Helper()
	m, fault := vm.New(src, units)
	if m == nil || fault != (api.Fault{}) {
		t.Fatalf("New(%.200q, %d): %v", src, units, fault)
	}
	return m
}

func start(t testing.TB, m *vm.Machine, name string, fuel int64, args ...api.Raw) {
	t.Helper()
	if e := m.Start(name, args, fuel); e != api.OK {
		t.Fatalf("Start(%s, %s, %d) is %d", name, short(args), fuel, e)
	}
}

func run(t testing.TB, m *vm.Machine, name string, args ...api.Raw) api.End {
	t.Helper()
	end, e := m.Run(name, args, plenty)
	if e != api.OK {
		t.Fatalf("Run(%s, %s) is %d", name, short(args), e)
	}
	return end
}

func sameEnd(a, b api.End) bool {
	return a.Code == b.Code && a.At == b.At && a.Ticks == b.Ticks && a.Value == b.Value && slices.Equal(a.Out, b.Out)
}

func sameState(a, b api.State) bool {
	return a.Ticks == b.Ticks && a.Depth == b.Depth && a.At == b.At && a.Out == b.Out && slices.Equal(a.Vars, b.Vars)
}

func wantSites(t testing.TB, m *vm.Machine, want ...api.Site) {
	t.Helper()
	if got := m.Sites(); !slices.Equal(got, want) {
		t.Errorf("Sites: %+v\nwant %+v", got, want)
	}
}

func wantForce(t testing.TB, m *vm.Machine, i, form int, want api.Errno) {
	t.Helper()
	if e := m.Force(i, form); e != want {
		t.Errorf("Force(%d, %d) is %d; want %d", i, form, e, want)
	}
}

// codeOf is the code of a function that there is.
func codeOf(t testing.TB, m *vm.Machine, name string) []api.Instr {
	t.Helper()
	code, e := m.Code(name)
	if e != api.OK {
		t.Fatalf("Code(%s) is %d", name, e)
	}
	return code
}

// short is what is told of something that may have long strings in it.
func short(x any) string {
	told := fmt.Sprint(x)
	if len(told) > 300 {
		return told[:300] + ".."
	}
	return told
}

// many is a text for each number from 0 on: # stands in it for the number.
func many(n int, form string) string {
	var list strings.Builder
	for i := range n {
		list.WriteString(strings.ReplaceAll(form, "#", strconv.Itoa(i)))
	}
	return list.String()
}

// filler is a string of n bytes.
func filler(n int) string { return strings.Repeat("x", n) }

// both are a tree machine and a register machine of one source: what is asked of the one is asked of the other, and they must tell it alike.
type both struct {
	testing.TB
	tree *walk.Machine
	regs *vm.Machine
}

func pair(t testing.TB, src string, units int) *both {
	t.Helper()
	tree, fault := walk.New(src, units)
	if fault.Code != api.OK {
		t.Fatalf("%.200q, %d units: %v", src, units, fault)
	}
	return &both{TB: t, tree: tree, regs: load(t, src, units)}
}

// alike tells of what is not.
func (b *both) alike(what string, regs, tree any) {
	b.Helper()
	if regs != tree {
		b.Errorf("%s: %s\nthe tree machine: %s", what, short(regs), short(tree))
	}
}

func (b *both) start(name string, fuel int64, args ...api.Raw) api.Errno {
	b.Helper()
	e := b.regs.Start(name, args, fuel)
	b.alike("Start", e, b.tree.Start(name, args, fuel))
	return e
}

// step asks for one more tick, and for all that can be told of it.
func (b *both) step() bool {
	b.Helper()
	more := b.regs.Step()
	b.alike("Step", more, b.tree.Step())
	b.same()
	return more
}

// same asks for all that can be told without changing anything. What goes out gets no number here.
func (b *both) same() {
	b.Helper()
	rs, rok := b.regs.State()
	ts, tok := b.tree.State()
	if rok != tok || !sameState(rs, ts) {
		b.Errorf("State: %s, %v\nthe tree machine: %s, %v", short(rs), rok, short(ts), tok)
	}
	re, rok := b.regs.End()
	te, tok := b.tree.End()
	if rok != tok || !sameEnd(re, te) {
		b.Errorf("End: %s, %v\nthe tree machine: %s, %v", short(re), rok, short(te), tok)
	}
	if r, t := b.regs.Reach(), b.tree.Reach(); r != t {
		b.Errorf("Reach: %d; the tree machine: %d", r, t)
	}
}

// rest goes on to the end, which is told.
func (b *both) rest() api.End {
	b.Helper()
	for b.step() && !b.Failed() {
	}
	end, _ := b.regs.End()
	return end
}

// through begins a run of f and goes to its end; false: it does not begin.
func (b *both) through(fuel int64, args ...api.Raw) (api.End, bool) {
	b.Helper()
	if b.start("f", fuel, args...) != api.OK {
		return api.End{}, false
	}
	b.same()
	return b.rest(), true
}

func (b *both) global(name string) (api.Raw, api.Errno) {
	b.Helper()
	r, e := b.regs.Global(name)
	raw, code := b.tree.Global(name)
	b.alike("Global("+name+")", r, raw)
	b.alike("Global("+name+")", e, code)
	return r, e
}

func (b *both) setGlobal(name string, r api.Raw) api.Errno {
	b.Helper()
	e := b.regs.SetGlobal(name, r)
	b.alike("SetGlobal("+name+")", e, b.tree.SetGlobal(name, r))
	b.same()
	return e
}

func (b *both) peek(ref int, i int64) (api.Raw, api.Errno) {
	b.Helper()
	r, e := b.regs.Peek(ref, i)
	raw, code := b.tree.Peek(ref, i)
	b.alike("Peek", r, raw)
	b.alike("Peek", e, code)
	return r, e
}

func (b *both) poke(ref int, i int64, r api.Raw) api.Errno {
	b.Helper()
	e := b.regs.Poke(ref, i, r)
	b.alike("Poke", e, b.tree.Poke(ref, i, r))
	b.same()
	return e
}

func (b *both) release(ref int) api.Errno {
	b.Helper()
	e := b.regs.Release(ref)
	b.alike("Release", e, b.tree.Release(ref))
	b.same()
	return e
}
