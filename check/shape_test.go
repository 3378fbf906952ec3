package check_test

import (
	"math"
	"slices"
	"testing"

	"casket/api"
	"casket/check"
	"casket/tree"
)

// Promise 13.2: rows that chapter 12's Print refuses.

func wantShape(t *testing.T, l []api.Node) {
	t.Helper()
	if _, e := tree.Print(l); e != api.ErrShape {
		t.Fatalf("Print takes %v", l)
	}
	if got := check.Check(l); got != (api.Fault{Code: api.ErrShape}) {
		t.Errorf("Check(%v): %v", l, got)
	}
	wantNoSites(t, l)
	wantNoRegs(t, l)
}

func TestNoRow(t *testing.T) {
	wantShape(t, nil)
	wantShape(t, []api.Node{})
	wantTaken(t, "")
	wantTaken(t, " # nothing")
}

func TestNoTree(t *testing.T) {
	wantShape(t, []api.Node{{}})
	wantShape(t, []api.Node{{Kind: 99, At: 5}})
	wantShape(t, []api.Node{{Kind: api.NodeProgram, Kids: -1}})
	wantShape(t, []api.Node{{Kind: api.NodeProgram, Kids: 1}})
	wantShape(t, []api.Node{{Kind: api.NodeProgram, Kids: math.MaxInt}})
	wantShape(t, []api.Node{{Kind: api.NodeProgram, Kids: math.MinInt}})
	wantShape(t, []api.Node{{Kind: api.NodeProgram}, {Kind: api.NodeProgram}})
	wantShape(t, []api.Node{{Kind: api.NodeBlock, At: 3}})
	wantShape(t, []api.Node{{Kind: api.NodeProgram, Kids: 1}, {Kind: api.NodeGlobal, At: 4}})
	wantShape(t, []api.Node{{Kind: api.NodeProgram, Kids: 1}, {Kind: api.NodeGlobal, At: 4, Text: "fn"}})
	wantShape(t, []api.Node{{Kind: api.NodeProgram, Kids: 1}, {Kind: api.NodeFunc, At: 4, Text: "f"}})
	wantShape(t, []api.Node{{Kind: api.NodeProgram, Kids: 1}, {Kind: api.NodeFunc, At: 4, Kids: 1, Text: "f"}, {Kind: api.NodeParam, Text: "a"}})
}

// A right row that is cut off, has one more, or has a node that is turned, is refused, whatever else is wrong with it.
func TestTurnedRows(t *testing.T) {
	for _, src := range []string{"let g; fn f(a) { l: for i in 0..g { if a { a[i] = -1 + f(i); } else { break l; } } }", "fn len() { x = 1; break; let a = 1; let a = 1; f(2); }"} {
		was := parsed(t, src)
		for n := range was {
			wantShape(t, was[:n])
		}
		wantShape(t, append(slices.Clip(was), api.Node{Kind: api.NodeNil}))
		for i := range was {
			for _, turn := range []func(n *api.Node){
				func(n *api.Node) { n.Kids++ },
				func(n *api.Node) { n.Kids = -1 },
				func(n *api.Node) { n.Kids = math.MaxInt },
				func(n *api.Node) { n.Kind = 0 },
				func(n *api.Node) { n.Kind = 99 },
				func(n *api.Node) { n.Int = -1 },
				func(n *api.Node) { n.Bits = 1 << 63 },
				func(n *api.Node) { n.Text = "A" },
			} {
				l := slices.Clone(was)
				turn(&l[i])
				if _, e := tree.Print(l); e == api.ErrShape {
					wantShape(t, l)
				} else if got := check.Check(l); got.Code == api.ErrShape {
					t.Errorf("Check(%v): %v, but Print takes it", l, got)
				}
			}
		}
	}
}

// Each node's At is told as it stands, and has nothing to do with what is right.
func TestAnyPlaces(t *testing.T) {
	was := parsed(t, "fn f(a) { a = 1; if a { x = 2; } }")
	for _, place := range []int{0, 7, -1, math.MaxInt, math.MinInt} {
		l := slices.Clone(was)
		for i := range l {
			l[i].At = place
		}
		if got := check.Check(l); got != (api.Fault{Code: api.ErrName, At: place}) {
			t.Errorf("all at %d: %v", place, got)
		}
	}
	l := slices.Clone(was)
	for i := range l {
		l[i].At = -i
	}
	if got := check.Check(l); got != (api.Fault{Code: api.ErrName, At: -9}) {
		t.Errorf("falling: %v", got)
	}
}
