package tree_test

import (
	"math"
	"slices"
	"strings"
	"testing"

	"casket/api"
	"casket/tree"
)

// Promise 12.7 (W3), and 12.1 to 12.3 by trees that are made by chance, and written with brackets and gaps by chance.

// grower makes trees.
type grower struct {
	chance
	budget int // of nodes
}

var someNames = []string{"a", "b", "x1", "_", "long_name", "infx", "fnn", strings.Repeat("z", 31)}

func (g *grower) name() string { return pick(&g.chance, someNames) }

// label is a name or none.
func (g *grower) label() string {
	if g.below(2) == 0 {
		return ""
	}
	return g.name()
}

func (g *grower) make(kind int, text string, kids ...*part) *part {
	g.budget--
	return &part{node: api.Node{Kind: kind, Text: text}, kids: kids}
}

func (g *grower) some(n int, make func() *part) []*part {
	var list []*part
	for range g.below(n + 1) {
		if g.budget > 0 {
			list = append(list, make())
		}
	}
	return list
}

func (g *grower) program() *part {
	return g.make(api.NodeProgram, "", g.some(6, func() *part {
		if g.below(3) == 0 {
			return g.make(api.NodeGlobal, g.name())
		}
		parameters := g.some(4, func() *part { return g.make(api.NodeParam, g.name()) })
		return g.make(api.NodeFunc, g.name(), append(parameters, g.block(5))...)
	})...)
}

func (g *grower) block(depth int) *part {
	return g.make(api.NodeBlock, "", g.some(5, func() *part { return g.statement(depth) })...)
}

func (g *grower) statement(depth int) *part {
	value := func() *part { return g.value(depth) }
	n := g.below(12)
	if depth == 0 {
		n = g.below(9)
	}
	switch n {
	case 0:
		return g.make(api.NodeLet, g.name(), value())
	case 1:
		return g.make(api.NodeAssign, g.name(), value())
	case 2:
		return g.make(api.NodeStore, "", value(), value(), value())
	case 3:
		return g.make(api.NodeBreak, g.label())
	case 4:
		return g.make(api.NodeContinue, g.label())
	case 5:
		return g.make(api.NodeReturn, "")
	case 6:
		return g.make(api.NodeReturn, "", value())
	case 7:
		return g.make(api.NodeOut, "", value())
	case 8:
		return g.make(api.NodeExpr, "", value())
	case 9:
		return g.choice(depth - 1)
	case 10:
		return g.make(api.NodeWhile, g.label(), value(), g.block(depth-1))
	}
	kids := []*part{value(), value(), g.block(depth - 1)}
	if label := g.label(); label != "" {
		kids = append([]*part{g.make(api.NodeLabel, label)}, kids...)
	}
	return g.make(api.NodeFor, g.name(), kids...)
}

func (g *grower) choice(depth int) *part {
	kids := []*part{g.value(depth), g.block(depth)}
	switch g.below(3) {
	case 0:
		kids = append(kids, g.block(depth))
	case 1:
		kids = append(kids, g.choice(depth))
	}
	return g.make(api.NodeIf, "", kids...)
}

func (g *grower) value(depth int) *part {
	value := func() *part { return g.value(depth - 1) }
	if depth <= 0 || g.budget <= 0 || g.below(4) == 0 {
		return g.leaf()
	}
	switch g.below(9) {
	case 0:
		return g.make(api.NodeOr, "", value(), value())
	case 1:
		return g.make(api.NodeAnd, "", value(), value())
	case 2:
		return g.make(api.NodeNot, "", value())
	case 3:
		return g.make(api.NodeUnary, pick(&g.chance, []string{"-", "~"}), value())
	case 4:
		return g.make(api.NodeCall, g.name(), g.some(3, value)...)
	case 5:
		return g.make(api.NodeIndex, "", value(), value())
	}
	return g.make(api.NodeBinary, pick(&g.chance, twos()[2:]), value(), value())
}

func (g *grower) leaf() *part {
	p := g.make(api.NodeName, "")
	switch g.below(8) {
	case 0:
		p.node.Kind, p.node.Int = api.NodeInt, int64(g.below(1<<20))*int64(g.below(1<<30))
	case 1:
		p.node.Kind, p.node.Bits = api.NodeFloat, pick(&g.chance, []uint64{0, 1, math.Float64bits(float64(g.below(1000)) / 8), math.Float64bits(math.Inf(1)), api.Canon})
	case 2:
		text := make([]byte, g.below(6))
		for i := range text {
			text[i] = byte(g.below(256))
		}
		p.node.Kind, p.node.Text = api.NodeText, string(text)
	case 3:
		p.node.Kind = pick(&g.chance, []int{api.NodeTrue, api.NodeFalse, api.NodeNil})
	default:
		p.node.Text = g.name()
	}
	return p
}

// source writes a tree, with gaps and more brackets than are needed, and notes the places.
func (g *grower) source(p *part, more int) string {
	w := &writer{}
	w.gap = func() string { return pick(&g.chance, []string{" ", " ", "\n", "\t ", " # r(\n"}) }
	w.bracketed = func(_ *part, needed bool) int {
		n := 0
		if more > 0 && g.below(more) == 0 {
			n = 1 + g.below(2)
		}
		if needed {
			n = max(n, 1)
		}
		return n
	}
	w.write(p)
	return w.text.String()
}

// A tree's source is read as that tree, with the places of its tokens.
func TestTreesByChance(t *testing.T) {
	g := &grower{chance: 21}
	for i := range 1000 {
		g.budget = 20 + g.below(200)
		p := g.program()
		for _, more := range []int{0, 2, 5} {
			src := g.source(p, more)
			want := p.row()
			l, f := tree.Parse(src)
			if deepest(src) > api.MaxNest {
				if f.Code != api.ErrNest {
					t.Fatalf("%d: Parse(%q): %v", i, src, f)
				}
				continue
			}
			if f != (api.Fault{}) || !slices.Equal(l, want) {
				t.Fatalf("%d: Parse(%q): %v\n got %s\nwant %s", i, src, f, told(l, 0), told(want, 0))
			}
			wantThereAndBack(t, l)
			wantModel(t, l)
		}
	}
}

// A right source, cut off at each byte, is right or has its first fault where it ends, or in a token that is cut off.
func TestCutByChance(t *testing.T) {
	g := &grower{chance: 22}
	for range 30 {
		g.budget = 60
		src := g.source(g.program(), 4)
		for n := range len(src) {
			l, f := tree.Parse(src[:n])
			switch {
			case f == (api.Fault{}):
				wantThereAndBack(t, l)
			case f.Code == api.ErrSyntax && f.At == n:
			case f.Code >= api.ErrByte && f.Code <= api.ErrName && strings.IndexAny(src[f.At:n], " \n\t") < 0:
			case f.Code == api.ErrString && src[f.At] == '"':
			case f.Code == api.ErrSyntax && !strings.ContainsAny(src[f.At:n], " \n\t"): // a word that is cut off is a name, where none may stand
			default:
				t.Fatalf("Parse(%q): %v, %v", src[:n], l, f)
			}
		}
	}
}

// Two sources of one tree have one text; that text is its own.
func TestOneTextOfEachTree(t *testing.T) {
	g := &grower{chance: 23}
	for range 500 {
		g.budget = 100
		p := g.program()
		one, f := tree.Parse(g.source(p, 3))
		other, h := tree.Parse(g.source(p, 0))
		if f.Code == api.ErrNest || h.Code == api.ErrNest {
			continue
		}
		text, _ := tree.Print(one)
		if again, e := tree.Print(other); again != text || e != api.OK {
			t.Fatalf("%q and %q, %d", text, again, e)
		}
		if deepest(text) > api.MaxNest {
			continue
		}
		l, f := tree.Parse(text)
		if again, _ := tree.Print(l); again != text || f != (api.Fault{}) {
			t.Fatalf("%q there and back: %q, %v", text, again, f)
		}
	}
}
