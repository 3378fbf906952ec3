package fold_test

import (
	"math"
	"math/rand"
	"slices"
	"testing"

	"casket/api"
	"casket/check"
	"casket/fold"
)

// Any rows of nodes at all: they are as they were, the answer is Check's fault or what the model says, and it is apart from the row.

// holdRow looks at all that is promised of one row.
func holdRow(t *testing.T, l []api.Node) api.Errno {
	t.Helper()
	holdApart(t, l)
	fault := check.Check(l)
	if fault.Code != api.OK {
		wantFault(t, l, fault)
		return fault.Code
	}
	wantRow(t, l, modelFold(l))
	wantStays(t, folded(t, l))
	return api.OK
}

// anyNode has a bit of everything, most of it wrong.
func anyNode(c *rand.Rand) api.Node {
	texts := []string{"", "", "", "a", "f", "g", "len", "sub", "row", "+", "-", "~", "==", "not", "and", "x y", "\x00"}
	node := api.Node{Kind: c.Intn(api.NodeNil+4) - 1, At: c.Intn(2000) - 500, Kids: c.Intn(5) - 1, Text: texts[c.Intn(len(texts))]}
	switch c.Intn(8) {
	case 0:
		node.Int = c.Int63() >> c.Intn(63)
	case 1:
		node.Bits = c.Uint64()
	case 2:
		node.Kids = []int{math.MaxInt, math.MinInt, 1 << 32, -1}[c.Intn(4)]
	case 3:
		node.Int = -c.Int63()
	}
	return node
}

func TestAnyRows(t *testing.T) {
	for seed := range int64(3000) {
		c := rand.New(rand.NewSource(seed))
		l := make([]api.Node, c.Intn(30))
		for i := range l {
			l[i] = anyNode(c)
		}
		if len(l) > 0 && c.Intn(2) == 0 {
			l[0] = api.Node{Kind: api.NodeProgram, Kids: 1}
		}
		holdRow(t, l)
	}
}

// turned is a tree with some nodes that are another one's, left out, or turned a bit.
func turned(c *rand.Rand, l []api.Node) []api.Node {
	l = slices.Clone(l)
	for range 1 + c.Intn(3) {
		i := c.Intn(len(l))
		switch c.Intn(20) {
		case 0:
			l[i] = anyNode(c)
		case 1:
			l = slices.Delete(l, i, i+1)
		case 2:
			l = slices.Insert(l, i, l[c.Intn(len(l))])
		case 3:
			l[i].Int, l[i].Bits = l[i].Int+int64(c.Intn(3))-1, l[i].Bits^1<<c.Intn(64)
		case 4, 5, 6, 7, 8, 9, 10:
			if s := l[i].Text; s != "" && s[0] >= 'a' && s[0] <= 'z' {
				l[i].Text = []string{"n", "s", "f", "z", "len", "sub", "zz"}[c.Intn(7)]
			}
		case 11:
			l[i].At = c.Int()
		default: // a leaf of another kind
			if leaves := []api.Node{null, yes, no, whole(int64(c.Intn(3))), double(one), text("5")}; l[i].Kids == 0 && isExpression(l[i].Kind) {
				l[i] = leaves[c.Intn(len(leaves))]
			}
		}
	}
	return l
}

func TestTurnedRows(t *testing.T) {
	met := map[api.Errno]int{}
	for seed := range int64(600) {
		c := rand.New(rand.NewSource(seed))
		was := parsed(t, drawn(seed))
		for range 4 {
			met[holdRow(t, turned(c, was))]++
		}
		if t.Failed() {
			t.Fatal("seed", seed)
		}
	}
	t.Log(met)
	for _, code := range []api.Errno{api.OK, api.ErrShape, api.ErrName, api.ErrTwice, api.ErrCount} {
		if met[code] < 10 {
			t.Errorf("hardly a row meets %d", code)
		}
	}
}

// grown is an expression that is drawn as a row, with literals that no source is long enough for, too.
func grown(c *rand.Rand, depth int) []api.Node {
	literals := someLiterals()
	if depth == 0 || c.Intn(6) == 0 {
		if c.Intn(12) == 0 {
			return leaf(name("a"))
		}
		return leaf(literals[c.Intn(len(literals))])
	}
	kid := func() []api.Node { return grown(c, depth-1) }
	truth := func() []api.Node {
		if c.Intn(2) == 0 {
			return leaf([]api.Node{yes, no}[c.Intn(2)])
		}
		return of(api.NodeBinary, binaries[11+c.Intn(6)], kid(), kid())
	}
	switch c.Intn(8) {
	case 0:
		return of(api.NodeAnd, "", truth(), truth())
	case 1:
		return of(api.NodeOr, "", truth(), truth())
	case 2:
		return of(api.NodeNot, "", truth())
	case 3:
		return of(api.NodeUnary, unaries[c.Intn(2)], kid())
	case 4:
		return of(api.NodeIndex, "", kid(), kid())
	case 5:
		function := foldedFunctions[c.Intn(len(foldedFunctions))]
		var args [][]api.Node
		for range arities[function] {
			args = append(args, kid())
		}
		return of(api.NodeCall, function, args...)
	}
	return of(api.NodeBinary, binaries[c.Intn(len(binaries))], kid(), kid())
}

func TestGrownRows(t *testing.T) {
	whole := 0
	for seed := range int64(4000) {
		l := returned(grown(rand.New(rand.NewSource(seed)), 5))
		if holdRow(t, l) != api.OK && check.Check(l).Code != api.ErrConsts {
			t.Fatalf("seed %d: %v", seed, check.Check(l))
		}
		if got, _ := fold.Fold(l); len(got) == ahead+1 && len(l) > ahead+1 {
			whole++
		}
		if t.Failed() {
			t.Fatal("seed", seed)
		}
	}
	if whole < 400 {
		t.Errorf("only %d are known whole", whole)
	}
}
