package check_test

import (
	"math"
	"math/rand"
	"slices"
	"strconv"
	"testing"

	"casket/api"
	"casket/check"
	"casket/tree"
)

// Promises 13.1 to 13.5 by trees that are made by chance, mostly right ones, against the model.

func itoa(n int) string { return strconv.Itoa(n) }

// grower makes trees. It knows what is in scope, so that most are right; strange is how seldom it does not care.
type grower struct {
	*rand.Rand
	strange int
	budget  int // of nodes
	globals []string
	funcs   map[string]int
	order   []string // of funcs
	vars    []string // in scope
	labels  []string // around, none where there is none
}

func (g *grower) odd() bool { return g.Intn(g.strange) == 0 }

var someNames = []string{"a", "b", "c", "d", "e", "f", "g", "len", "row"}

func (g *grower) pick(list []string) string {
	if len(list) == 0 || g.odd() {
		list = someNames
	}
	return list[g.Intn(len(list))]
}

func (g *grower) make(kind int, text string, kids ...[]api.Node) []api.Node {
	g.budget--
	return append([]api.Node{{Kind: kind, Text: text, Kids: len(kids), At: g.Intn(1000) - 100}}, slices.Concat(kids...)...)
}

func (g *grower) program() []api.Node {
	g.globals, g.order, g.funcs = nil, nil, map[string]int{}
	names := g.Perm(7)
	units := g.Intn(6)
	for _, n := range names[:units] {
		name := someNames[n]
		if g.odd() {
			name = g.pick(nil)
		}
		if g.Intn(3) == 0 {
			g.globals = append(g.globals, name)
		} else {
			g.order = append(g.order, name)
			g.funcs[name] = g.Intn(4)
		}
	}
	var kids [][]api.Node
	for _, name := range g.globals {
		kids = append(kids, g.make(api.NodeGlobal, name))
	}
	for _, name := range g.order {
		kids = append(kids, g.function(name))
	}
	g.Shuffle(len(kids), func(i, j int) { kids[i], kids[j] = kids[j], kids[i] })
	return g.make(api.NodeProgram, "", kids...)
}

func (g *grower) function(name string) []api.Node {
	g.vars, g.labels = slices.Clone(g.globals), nil
	var kids [][]api.Node
	names := g.Perm(len(someNames))
	for i := range g.funcs[name] {
		param := someNames[names[i]]
		if g.odd() {
			param = g.pick(nil)
		}
		g.vars = append(g.vars, param)
		kids = append(kids, g.make(api.NodeParam, param))
	}
	return g.make(api.NodeFunc, name, append(kids, g.block(4))...)
}

func (g *grower) block(depth int) []api.Node {
	vars := len(g.vars)
	var kids [][]api.Node
	for range g.Intn(7) {
		if g.budget > 0 {
			kids = append(kids, g.statement(depth, vars))
		}
	}
	g.vars = g.vars[:vars]
	return g.make(api.NodeBlock, "", kids...)
}

// statement: the names behind vars are those of its own block.
func (g *grower) statement(depth, vars int) []api.Node {
	n := g.Intn(14)
	if depth == 0 {
		n = g.Intn(9)
	}
	switch n {
	case 0, 1:
		value := g.value(3)
		name := g.pick(nil)
		for tries := 0; slices.Contains(g.vars[vars:], name) && !g.odd() && tries < 100; tries++ {
			name = g.pick(nil) + itoa(g.Intn(3))
		}
		g.vars = append(g.vars, name)
		return g.make(api.NodeLet, name, value)
	case 2:
		return g.make(api.NodeAssign, g.pick(g.vars), g.value(3))
	case 3:
		return g.make(api.NodeStore, "", g.value(2), g.value(2), g.value(2))
	case 4:
		return g.jump()
	case 5:
		if g.Intn(2) == 0 {
			return g.make(api.NodeReturn, "")
		}
		return g.make(api.NodeReturn, "", g.value(3))
	case 6:
		return g.make(api.NodeOut, "", g.value(3))
	case 7, 8:
		return g.make(api.NodeExpr, "", g.value(4))
	case 9, 10:
		return g.choice(depth - 1)
	}
	return g.loop(depth-1, n == 11)
}

func (g *grower) jump() []api.Node {
	kind := api.NodeBreak + g.Intn(2)
	if len(g.labels) == 0 && !g.odd() {
		return g.make(api.NodeReturn, "")
	}
	if g.odd() {
		return g.make(kind, g.pick(nil))
	}
	if len(g.labels) == 0 {
		return g.make(kind, "")
	}
	return g.make(kind, g.labels[g.Intn(len(g.labels))])
}

func (g *grower) choice(depth int) []api.Node {
	kids := [][]api.Node{g.value(2), g.block(depth)}
	switch g.Intn(3) {
	case 0:
		kids = append(kids, g.block(depth))
	case 1:
		kids = append(kids, g.choice(depth))
	}
	return g.make(api.NodeIf, "", kids...)
}

func (g *grower) loop(depth int, while bool) []api.Node {
	label := ""
	if g.Intn(2) == 0 {
		label = g.pick(nil)
		for slices.Contains(g.labels, label) && !g.odd() {
			label = g.pick(nil) + itoa(g.Intn(5))
		}
	}
	labels := len(g.labels)
	g.labels = append(g.labels, label)
	defer func() { g.labels = g.labels[:labels] }()
	if while {
		return g.make(api.NodeWhile, label, g.value(2), g.block(depth))
	}
	var kids [][]api.Node
	if label != "" {
		kids = append(kids, g.make(api.NodeLabel, label))
	}
	kids = append(kids, g.value(2), g.value(2))
	name := g.pick(nil)
	g.vars = append(g.vars, name)
	block := g.block(depth)
	g.vars = g.vars[:len(g.vars)-1]
	return g.make(api.NodeFor, name, append(kids, block)...)
}

var twos = []string{"+", "-", "*", "/", "//", "%", "&", "|", "^", "<<", ">>", "<", "<=", ">", ">=", "==", "!="}

func (g *grower) value(depth int) []api.Node {
	if depth == 0 || g.budget <= 0 || g.Intn(4) == 0 {
		return g.leaf()
	}
	switch n := g.Intn(9); n {
	case 0, 1:
		return g.make(api.NodeOr+n, "", g.value(depth-1), g.value(depth-1))
	case 2:
		return g.make(api.NodeNot, "", g.value(depth-1))
	case 3:
		return g.make(api.NodeUnary, []string{"-", "~"}[g.Intn(2)], g.value(depth-1))
	case 4:
		return g.make(api.NodeIndex, "", g.value(depth-1), g.value(depth-1))
	case 5, 6:
		return g.call(depth)
	}
	return g.make(api.NodeBinary, twos[g.Intn(len(twos))], g.value(depth-1), g.value(depth-1))
}

func (g *grower) call(depth int) []api.Node {
	name := []string{"len", "load", "store", "view"}[g.Intn(4)]
	n := map[string]int{"len": 1, "load": 2, "store": 3, "view": 4}[name]
	if len(g.order) > 0 && g.Intn(3) > 0 {
		name = g.pick(g.order)
		n = g.funcs[name]
	}
	if g.odd() {
		n = g.Intn(4)
	}
	var kids [][]api.Node
	for range n {
		kids = append(kids, g.value(depth-1))
	}
	return g.make(api.NodeCall, name, kids...)
}

func (g *grower) leaf() []api.Node {
	l := g.make(api.NodeNil, "")
	switch n := g.Intn(6); {
	case n == 0:
		l[0].Kind, l[0].Int = api.NodeInt, int64(g.Intn(60))
	case n == 1:
		l[0].Kind, l[0].Bits = api.NodeFloat, uint64(g.Intn(8))
	case n == 2:
		l[0].Kind, l[0].Text = api.NodeText, itoa(g.Intn(8))
	case n == 3:
		l[0].Kind += -g.Intn(3)
	case len(g.vars) > 0 || g.odd():
		l[0].Kind, l[0].Text = api.NodeName, g.pick(g.vars)
	}
	return l
}

// wantModel holds all four calls against the model, and tells the fault.
func wantModel(t *testing.T, l []api.Node) api.Errno {
	t.Helper()
	text, e := tree.Print(l)
	if e != api.OK {
		t.Fatalf("Print refuses %v", l)
	}
	var want api.Fault
	if all := modelFaults(l, api.MaxRegs); len(all) > 0 {
		want = all[0]
	}
	if got := check.Check(l); got != want {
		t.Fatalf("Check of %s: %v, want %v", text, got, want)
	}
	var sites []int
	if want.Code == api.OK {
		sites = modelSites(l)
	}
	if got := check.Sites(l); !slices.Equal(got, sites) {
		t.Fatalf("Sites of %s: %v, want %v", text, got, sites)
	}
	others := len(modelFaults(l, math.MaxInt))
	program, _ := grown(l, nil, 0)
	for _, name := range append(someNames, "nope", "") {
		regs := 0
		if own := named(program.kids, name, api.NodeFunc); others == 0 && len(own) > 0 {
			regs = own[0].registers()
		}
		if got := check.Regs(l, name); got != regs {
			t.Fatalf("Regs of %q of %s: %d, want %d", name, text, got, regs)
		}
	}
	return want.Code
}

func TestTreesByChance(t *testing.T) {
	met := map[api.Errno]int{}
	for i := range 4000 {
		g := &grower{Rand: rand.New(rand.NewSource(int64(i))), strange: 20 << (i % 5), budget: 20 << (i % 4)}
		met[wantModel(t, g.program())]++
	}
	for _, code := range []api.Errno{api.OK, api.ErrTwice, api.ErrCount, api.ErrName, api.ErrLoop} {
		if met[code] < 20 {
			t.Errorf("too few trees of %d: %v", code, met)
		}
	}
}

// Right trees of which one node is turned.
func TestTurnedByChance(t *testing.T) {
	met := map[api.Errno]int{}
	for i := range 600 {
		g := &grower{Rand: rand.New(rand.NewSource(int64(i))), strange: math.MaxInt32, budget: 60}
		was := g.program()
		for range 5 {
			l := slices.Clone(was)
			n := &l[g.Intn(len(l))]
			if n.Text == "" || n.Kind == api.NodeBinary || n.Kind == api.NodeUnary {
				continue
			}
			n.Text = g.pick(nil)
			met[wantModel(t, l)]++
		}
	}
	if len(met) < 5 {
		t.Errorf("%v", met)
	}
}

// Great functions, near the limits of constants and registers.
func TestGreatByChance(t *testing.T) {
	met := map[api.Errno]int{}
	for i := range 300 {
		g := &grower{Rand: rand.New(rand.NewSource(int64(i))), strange: math.MaxInt32, budget: math.MaxInt32}
		var kids [][]api.Node
		for k := range 40 + g.Intn(60) {
			switch g.Intn(3) {
			case 0:
				kids = append(kids, g.make(api.NodeLet, "v"+itoa(k), g.value(2)))
			case 1:
				kids = append(kids, g.make(api.NodeLet, "v"+itoa(k), g.make(api.NodeInt, "")))
				kids[len(kids)-1][1].Int = int64(k)
			case 2:
				kids = append(kids, g.make(api.NodeExpr, "", g.value(4)))
			}
		}
		f := g.make(api.NodeFunc, "f", g.make(api.NodeBlock, "", kids...))
		met[wantModel(t, g.make(api.NodeProgram, "", f))]++
	}
	for _, code := range []api.Errno{api.OK, api.ErrConsts, api.ErrRegs} {
		if met[code] < 5 {
			t.Errorf("%v", met)
		}
	}
}
