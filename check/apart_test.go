package check_test

import (
	"slices"
	"strings"
	"testing"

	"casket/api"
	"casket/check"
)

// R3: what is handed in is not changed, and not kept; two answers are apart. R4: nothing hangs on what was asked before.

// asked are sources of each sort: right ones, and one for each fault.
func asked() []string {
	list := []string{"", "let g; fn f(a) { l: for i in 0..g { if a { a[i] = -1 + f(i) * 2; } else { break l; } } }"}
	for _, x := range append(pieces, tooMuch...) {
		list = append(list, "fn g(a) { a + a; } fn f() { if true { "+strings.Replace(x.text, mark, "", 1)+"} }")
	}
	return list
}

func TestRowsHandedIn(t *testing.T) {
	room := []api.Node{{Kind: 77, At: 1}, {Kind: api.NodeNil}}
	for _, src := range asked() {
		was := parsed(t, src)
		for _, was := range [][]api.Node{was, was[:len(was)-1]} {
			full := slices.Concat(was, room)
			l := full[:len(was)]
			check.Check(l)
			check.Regs(l, "f")
			check.Sites(l)
			if !slices.Equal(full, slices.Concat(was, room)) {
				t.Errorf("%.90q: the row was changed", src)
			}
		}
	}
}

// A row that is right together with the room behind it is not: that is not looked at.
func TestRoomBehindRow(t *testing.T) {
	full := parsed(t, "let g; fn f(a) { return a - 1 - g; }")
	for n := range full {
		wantShape(t, full[:n])
	}
}

func TestTreesAreApart(t *testing.T) {
	for _, src := range asked()[:2] {
		one, _ := check.Load(src)
		other, _ := check.Load(src)
		was := slices.Clone(one)
		grown := append(one, api.Node{Kind: 1, Text: "one"})
		other = append(other, api.Node{Kind: 2, Text: "other"})
		if grown[len(was)].Text != "one" || other[len(was)].Text != "other" {
			t.Errorf("%q: two rows share their room", src)
		}
		clear(one)
		again, f := check.Load(src)
		if !slices.Equal(other[:len(was)], was) || !slices.Equal(again, was) || f != (api.Fault{}) {
			t.Errorf("%q: two rows share their nodes", src)
		}
	}
}

func TestSitesAreApart(t *testing.T) {
	l := parsed(t, asked()[1])
	was := slices.Clone(check.Sites(l))
	if len(was) != 2 {
		t.Fatal(was)
	}
	one, other := check.Sites(l), check.Sites(l)
	grown := append(one, 1)
	other = append(other, 2)
	if grown[len(was)] != 1 || other[len(was)] != 2 {
		t.Error("two lists share their room")
	}
	clear(one)
	if !slices.Equal(other[:len(was)], was) || !slices.Equal(check.Sites(l), was) {
		t.Error("two lists share their places")
	}
}

// A row that is written over does not change what was answered of it.
func TestSitesAreNotTheRows(t *testing.T) {
	l := parsed(t, asked()[1])
	sites := check.Sites(l)
	was := slices.Clone(sites)
	clear(l)
	if !slices.Equal(sites, was) {
		t.Error(sites)
	}
}

func TestAskedAgain(t *testing.T) {
	var first []api.Fault
	for _, src := range asked() {
		first = append(first, check.Check(parsed(t, src)))
	}
	for range 3 {
		for i, src := range asked() {
			l := parsed(t, src)
			if got := check.Check(l); got != first[i] {
				t.Errorf("Check of %.90q: %v, then %v", src, first[i], got)
			}
			check.Regs(l, "f")
			check.Sites(l)
		}
	}
}
