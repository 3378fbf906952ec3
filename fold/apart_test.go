package fold_test

import (
	"slices"
	"testing"

	"casket/api"
	"casket/fold"
)

// R3: what is handed in is neither changed nor kept, and what is answered shares nothing with it or with another answer. R4: nothing hangs on what was asked before.

// asked are trees of each sort: some of them is folded, none of it, none though it could be; and some that are refused.
func asked(t testing.TB) [][]api.Node {
	var list [][]api.Node
	for _, src := range []string{
		"", "let g;", "fn f() { return 1 + 2 * 3; }", "fn f(a) { return false and a or not true; }", "fn f(a) { let b = a + (1 + 2); out b; return \"a\" + text(b * 2) + (\"c\" + \"d\"); }",
		"fn f(a) { return a + 1; }", "fn f() { return 1 - 2; }",
		"fn f() { " + many(api.MaxConsts, "#;") + "62 + 63; }",
		"fn f() { return x; }", "fn f() { break; }",
	} {
		list = append(list, parsed(t, src))
	}
	right := list[4]
	return append(list, nil, right[:1], right[:len(right)-1], right[1:])
}

// holdApart writes over what is answered, grows it, and looks at what is left of all else.
func holdApart(t testing.TB, was []api.Node) {
	t.Helper()
	room := []api.Node{{Kind: 77, At: 1, Text: "room"}, {Kind: api.NodeNil}, {Kind: api.NodeNil}, {Kind: api.NodeNil}}
	full := slices.Concat(was, room)
	l := full[:len(was)]
	one, fault := fold.Fold(l)
	other, again := fold.Fold(l)
	if !slices.Equal(one, other) || fault != again {
		t.Fatalf("Fold(%s): %s, %v, then %s, %v", short(was), short(one), fault, short(other), again)
	}
	want := slices.Clone(one)
	grown := append(one, api.Node{Text: "one"})
	second := append(other, api.Node{Text: "other"})
	if grown[len(want)].Text != "one" || second[len(want)].Text != "other" {
		t.Errorf("Fold(%s): two answers share their room", short(was))
	}
	for i := range one {
		one[i] = api.Node{Kind: 99, Text: "over"}
	}
	for i := range grown[:cap(grown)] {
		grown[:cap(grown)][i].At = 7
	}
	if !slices.Equal(full, slices.Concat(was, room)) {
		t.Errorf("Fold(%s): the row has changed", short(was))
	}
	if !slices.Equal(other, want) {
		t.Errorf("Fold(%s): two answers share their nodes", short(was))
	}
	for i := range full {
		full[i] = api.Node{Kind: 98, Text: "gone"}
	}
	if !slices.Equal(other, want) {
		t.Errorf("Fold(%s): the answer shares the row's nodes", short(was))
	}
}

func TestApart(t *testing.T) {
	for _, l := range asked(t) {
		holdApart(t, l)
	}
}

func TestAskedAgain(t *testing.T) {
	type answer struct {
		row   []api.Node
		fault api.Fault
	}
	var first []answer
	for _, l := range asked(t) {
		row, fault := fold.Fold(l)
		first = append(first, answer{row, fault})
	}
	for range 3 {
		for i, l := range asked(t) {
			if row, fault := fold.Fold(l); !slices.Equal(row, first[i].row) || fault != first[i].fault {
				t.Errorf("Fold(%s): %s, %v, then %s, %v", short(l), short(first[i].row), first[i].fault, short(row), fault)
			}
			fold.Source("fn f() { return \"" + filler(i*100) + "\" + text(1 << 50 + " + "2) ; }")
		}
	}
}
