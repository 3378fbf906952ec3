package fold_test

import (
	"math/rand"
	"slices"
	"testing"

	"casket/api"
	"casket/check"
	"casket/fold"
	"casket/tree"
	"casket/vm"
	"casket/walk"
)

// Promises 19.2 to 19.5 by sources that are drawn.

func isExpression(kind int) bool { return kind >= api.NodeOr && kind <= api.NodeNil }

// others are the nodes that are no expressions.
func others(l []api.Node) []api.Node {
	return slices.DeleteFunc(slices.Clone(l), func(node api.Node) bool { return isExpression(node.Kind) })
}

// 19.2 against the model, 19.3, 19.4.
func TestDrawnTrees(t *testing.T) {
	nodes, left := 0, 0
	for seed := range int64(1200) {
		src := drawn(seed)
		l := parsed(t, src)
		if fault := check.Check(l); fault != (api.Fault{}) {
			t.Fatalf("%s: %v", src, fault)
		}
		got := folded(t, l)
		nodes, left = nodes+len(l), left+len(got)
		wantRow(t, l, modelFold(l))
		wantStays(t, got)
		wantSource(t, src, printed(t, got))
		if len(got) > len(l) || !slices.Equal(others(got), others(l)) {
			t.Errorf("more nodes, or other statements: %s\n%s", short(l), short(got))
		}
		sites := check.Sites(l)
		for _, at := range check.Sites(got) {
			i := slices.Index(sites, at)
			if i < 0 {
				t.Fatalf("a site at %d that was none", at)
			}
			sites = slices.Delete(sites, i, i+1)
		}
		if t.Failed() {
			t.Fatalf("seed %d:\n%s", seed, src)
		}
	}
	t.Logf("%d of %d nodes are left", left, nodes)
	if left*5 > nodes*4 {
		t.Error("hardly anything is folded")
	}
}

// machine is one of either kind.
type machine interface {
	Start(name string, args []api.Raw, fuel int64) api.Errno
	Step() bool
	State() (api.State, bool)
	End() (api.End, bool)
	Global(name string) (api.Raw, api.Errno)
}

// machines are a tree machine and a register machine of a source.
func machines(t testing.TB, src string, units int) []machine {
	t.Helper()
	tree, fault := walk.New(src, units)
	if fault != (api.Fault{}) {
		t.Fatalf("%s: %v", short(src), fault)
	}
	regs, _ := vm.New(src, units)
	return []machine{tree, regs}
}

// run is what can be told of one: how it stood behind each tick, how it ended, and the globals then.
type run struct {
	states  []api.State
	end     api.End
	globals [3]api.Raw
}

// through runs f; false: it does not begin.
func through(m machine, args []api.Raw, fuel int64) (run, bool) {
	if m.Start("f", args, fuel) != api.OK {
		return run{}, false
	}
	var told run
	for m.Step() {
		state, _ := m.State()
		told.states = append(told.states, state)
	}
	told.end, _ = m.End()
	for i, name := range []string{"n0", "s0", "r0"} {
		told.globals[i], _ = m.Global(name)
	}
	return told, true
}

// moved is a run with its places as a map has them.
func (r run) moved(places map[int]int) run {
	out := run{end: r.end, globals: r.globals}
	out.end.At = places[r.end.At]
	for _, state := range r.states {
		state.At = places[state.At]
		out.states = append(out.states, state)
	}
	return out
}

func sameRun(a, b run) bool {
	x, y := a.end, b.end
	return x.Code == y.Code && x.At == y.At && x.Ticks == y.Ticks && x.Value == y.Value && slices.Equal(x.Out, y.Out) && a.globals == b.globals &&
		slices.EqualFunc(a.states, b.states, func(s, z api.State) bool {
			return s.Ticks == z.Ticks && s.Depth == z.Depth && s.At == z.At && s.Out == z.Out && slices.Equal(s.Vars, z.Vars)
		})
}

// placesOf leads from the places in a tree's text to those that its nodes have.
func placesOf(t testing.TB, l, told []api.Node) map[int]int {
	t.Helper()
	if len(l) != len(told) {
		t.Fatalf("%d nodes, of the text %d", len(l), len(told))
	}
	places := map[int]int{0: 0}
	for i, node := range told {
		if at, twice := places[node.At]; twice && at != l[i].At {
			t.Fatalf("at %d stands what has two places, %d and %d", node.At, at, l[i].At)
		}
		places[node.At] = l[i].At
	}
	return places
}

// drawnArgs are arguments of f.
func drawnArgs(c *rand.Rand) []api.Raw {
	wholes := []api.Raw{{Kind: api.Int}, {Kind: api.Int, Int: 1}, {Kind: api.Int, Int: 3}, {Kind: api.Int, Int: -2}, {Kind: api.Int, Int: 1 << 50}}
	texts := []api.Raw{{Kind: api.Text}, {Kind: api.Text, Text: "abc"}, {Kind: api.Text, Text: "abcdefghij"}}
	if c.Intn(8) == 0 {
		wholes = append(texts, api.Raw{}, api.Raw{Kind: api.Bool, Int: 1}, api.Raw{Kind: api.Float, Bits: half})
		texts = wholes
	}
	return []api.Raw{wholes[c.Intn(len(wholes))], texts[c.Intn(len(texts))]}
}

// 19.5: a run of what Source tells ends as that of the source does, in either machine. All places but those of literals are the nodes' own, so what a run tells on the way is the same, too.
func TestDrawnRuns(t *testing.T) {
	met := map[api.Errno]int{}
	for seed := range int64(1200) {
		src := drawn(seed)
		got := folded(t, parsed(t, src))
		told, _ := fold.Source(src)
		again, fault := tree.Parse(told)
		if fault != (api.Fault{}) {
			t.Fatalf("%s: %v", told, fault)
		}
		places := placesOf(t, got, again)
		c := rand.New(rand.NewSource(seed))
		units := 1000
		if seed%3 > 0 {
			units = c.Intn(30)
		}
		first := machines(t, src, units)
		second := machines(t, told, units)
		refused := false // what a run that is refused memory leaves, a folded one need not leave
		for range 3 {
			args, fuel := drawnArgs(c), int64(c.Intn(200))
			for i := range first {
				was, begun := through(first[i], args, fuel)
				is, also := through(second[i], args, fuel)
				met[was.end.Code]++
				refused = refused || !begun || was.end.Code == api.ErrMemory
				if !refused && (!also || !sameRun(is.moved(places), was)) {
					t.Fatalf("seed %d, %d units, fuel %d, machine %d, %v:\n%s\n%s\nfolded: %v\nwas: %v", seed, units, fuel, i, args, src, told, is, was)
				}
			}
			if refused {
				break
			}
		}
	}
	t.Log(met)
	for _, code := range []api.Errno{api.OK, api.ErrType, api.ErrFuel, api.ErrMemory, api.ErrOverflow, api.ErrIndex, api.ErrRange, api.ErrDivZero, api.ErrShift, api.ErrForm} {
		if met[code] < 20 {
			t.Errorf("hardly a run has ended with %d", code)
		}
	}
}
