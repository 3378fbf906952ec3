package tree_test

import (
	"fmt"
	"slices"
	"strconv"
	"strings"
	"testing"

	"casket/api"
	"casket/lex"
	"casket/tree"
)

// kindNames are the kinds' names, by their numbers.
var kindNames = strings.Fields("none Program Global Func Param Block Let Assign Store If While For Label Break Continue Return Out Expr Or And Not Binary Unary Call Index Name Int Float Text True False Nil")

// named are the kinds whose Text is a name, an operator or a label.
var named = []int{
	api.NodeGlobal, api.NodeFunc, api.NodeParam, api.NodeLet, api.NodeAssign, api.NodeWhile, api.NodeFor, api.NodeLabel, api.NodeBreak, api.NodeContinue,
	api.NodeBinary, api.NodeUnary, api.NodeCall, api.NodeName,
}

// toldNode is a node: its kind, what it says, and its place, counted from a byte. What it has beside that must be zero.
func toldNode(n api.Node, from int) string {
	if n.Kind < 1 || n.Kind >= len(kindNames) {
		return fmt.Sprintf("no node: %+v", n)
	}
	bare := api.Node{Kind: n.Kind, At: n.At, Kids: n.Kids}
	says := kindNames[n.Kind]
	switch {
	case slices.Contains(named, n.Kind):
		bare.Text = n.Text
		if n.Text != "" {
			says += " " + n.Text
		}
	case n.Kind == api.NodeText:
		bare.Text = n.Text
		says += " " + strconv.Quote(n.Text)
	case n.Kind == api.NodeInt:
		bare.Int = n.Int
		says += fmt.Sprintf(" %d", n.Int)
	case n.Kind == api.NodeFloat:
		bare.Bits = n.Bits
		says += fmt.Sprintf(" %x", n.Bits)
	}
	if n != bare {
		return fmt.Sprintf("no node: %+v", n)
	}
	return fmt.Sprintf("%s %d", says, n.At-from)
}

// toldPart is the first tree of a row, with its kids in brackets, and what stands behind it.
func toldPart(l []api.Node, from int) (string, []api.Node) {
	if len(l) == 0 {
		return "cut off", nil
	}
	told, rest := toldNode(l[0], from), l[1:]
	var kids []string
	for range l[0].Kids {
		kid, behind := toldPart(rest, from)
		kids, rest = append(kids, kid), behind
	}
	if len(kids) > 0 {
		told += " (" + strings.Join(kids, ", ") + ")"
	}
	return told, rest
}

// told are all trees of a row: a right one has one.
func told(l []api.Node, from int) string {
	var parts []string
	for len(l) > 0 {
		part, rest := toldPart(l, from)
		parts, l = append(parts, part), rest
	}
	return strings.Join(parts, ", ")
}

// same tells whether two rows are the same, At aside.
func same(a, b []api.Node) bool {
	return slices.EqualFunc(a, b, func(x, y api.Node) bool {
		x.At, y.At = 0, 0
		return x == y
	})
}

// parsed is the row of a right source, held against what follows of every such row (12.7).
func parsed(t *testing.T, src string) []api.Node {
	t.Helper()
	l, f := tree.Parse(src)
	if f != (api.Fault{}) {
		t.Fatalf("Parse(%.200q): %v", src, f)
	}
	wantThereAndBack(t, l)
	return l
}

// wantThereAndBack asks that a row is printed, and that what is printed is read as the row.
func wantThereAndBack(t *testing.T, l []api.Node) {
	t.Helper()
	text, e := tree.Print(l)
	if e != api.OK {
		t.Fatalf("Print of %.200s: %d", told(l, 0), e)
	}
	if want := modelText(l); text != want {
		t.Fatalf("Print of %.200s:\n got %.200q\nwant %.200q", told(l, 0), text, want)
	}
	if deepest(text) > api.MaxNest || len(text) > api.MaxSource {
		return
	}
	if m, f := tree.Parse(text); f != (api.Fault{}) || !same(l, m) {
		t.Fatalf("Parse(%.200q): %v\n got %.200s\nwant %.200s", text, f, told(m, 0), told(l, 0))
	}
	if again, e := tree.Print(l); again != text || e != api.OK {
		t.Fatalf("Print a second time: %.200q, %d", again, e)
	}
}

// deepest is how many brackets are open in a text, at most.
func deepest(text string) int {
	most, open := 0, 0
	for token := range lex.Tokens(text) {
		if token.Kind != api.TokMark {
			continue
		}
		switch token.Text {
		case "(", "[", "{":
			open++
		case ")", "]", "}":
			open--
		}
		most = max(most, open)
	}
	return most
}

func wantRow(t *testing.T, src, want string) {
	t.Helper()
	if got := told(parsed(t, src), 0); got != want {
		t.Errorf("Parse(%q):\n got %s\nwant %s", src, got, want)
	}
}

// wantStatements asks what stands in a function's block; places are counted from its first byte.
func wantStatements(t *testing.T, body, want string) {
	t.Helper()
	const ahead = "fn f(){"
	l := parsed(t, ahead+body+"}")
	if around := told(l[:3], 0); !strings.HasPrefix(around, "Program 0 (Func f 3 (Block 6") {
		t.Fatalf("%q stands in %s", body, around)
	}
	if got := told(l[3:], len(ahead)); got != want || l[0].Kids != 1 || l[1].Kids != 1 {
		t.Errorf("%q:\n got %s\nwant %s", body, got, want)
	}
}

// wantValue asks for the tree of an expression; places are counted from its first byte.
func wantValue(t *testing.T, src, want string) {
	t.Helper()
	const ahead = "fn f(){return "
	l := parsed(t, ahead+src+";}")
	if len(l) < 4 || l[3] != (api.Node{Kind: api.NodeReturn, At: 7, Kids: 1}) {
		t.Fatalf("%q: %s", src, told(l, 0))
	}
	if got := told(l[4:], len(ahead)); got != want {
		t.Errorf("%q:\n got %s\nwant %s", src, got, want)
	}
}

func wantFault(t *testing.T, src string, code api.Errno, at int) {
	t.Helper()
	if l, f := tree.Parse(src); len(l) != 0 || f != (api.Fault{Code: code, At: at}) {
		t.Errorf("Parse(%.200q): %.200s, %v; want %d at %d", src, told(l, 0), f, code, at)
	}
}

// wantRefused asks that a row is no tree.
func wantRefused(t *testing.T, l []api.Node) {
	t.Helper()
	if text, e := tree.Print(l); text != "" || e != api.ErrShape {
		t.Errorf("Print of %+v: %.200q, %d", l, text, e)
	}
}

// chance is a row of numbers that look like chance, and are the same in each run.
type chance uint64

func (c *chance) below(n int) int {
	*c = *c*6364136223846793005 + 1442695040888963407
	return int(uint64(*c) >> 33 % uint64(n))
}

func pick[T any](c *chance, list []T) T { return list[c.below(len(list))] }
