package tree_test

import (
	"slices"
	"testing"

	"casket/api"
	"casket/tree"
)

// R3: what is handed in is not changed, and not kept; two answers are apart.

// roomy is a copy of a row with room behind it, in which stands what must stay.
func roomy(l []api.Node) ([]api.Node, []api.Node) {
	room := append(slices.Clone(l), api.Node{Kind: 77}, api.Node{Kind: 78})
	return room[:len(l)], room
}

func TestRowsHandedIn(t *testing.T) {
	wrong := []api.Node{{Kind: 99}}
	for _, src := range append(sources(), wholes...) {
		was := parsed(t, src)
		for _, was := range [][]api.Node{was, append(slices.Clip(was), wrong...), append(wrong, was...), was[:len(was)-1]} {
			l, room := roomy(was)
			tree.Print(l)
			for i := range len(l) + 1 {
				for range tree.Kids(l, i) {
					tree.Print(l)
				}
			}
			if !slices.Equal(l, was) || !slices.Equal(room[len(was):], []api.Node{{Kind: 77}, {Kind: 78}}) {
				t.Fatalf("%q: %v", src, room)
			}
		}
	}
}

// A row that is right together with the room behind it is not: that is not looked at.
func TestRoomBehindRow(t *testing.T) {
	full := parsed(t, "let g; fn f(a) { return a - 1 - g; }")
	for n := range full {
		wantRefused(t, full[:n])
		for i := range n {
			for at := range tree.Kids(full[:n], i) {
				if at >= n {
					t.Errorf("the row of %d has a kid at %d", n, at)
				}
			}
		}
	}
}

// A row that is written over is not one that Kids was asked of.
func TestKidsAreNotKept(t *testing.T) {
	l := bare(3, 1, 0, 0, 0)
	seq := tree.Kids(l, 0)
	for i := range l {
		l[i] = api.Node{Kids: 1}
	}
	if got := slices.Collect(seq); !slices.Equal(got, []int{1, 3, 4}) {
		t.Errorf("written over ahead: %v", got)
	}
	l = bare(3, 1, 0, 0, 0)
	var met []int
	for i := range tree.Kids(l, 0) {
		met = append(met, i)
		clear(l)
	}
	if !slices.Equal(met, []int{1, 3, 4}) {
		t.Errorf("written over on the way: %v", met)
	}
}

func TestAnswersAreApart(t *testing.T) {
	for _, src := range append(sources(), wholes...) {
		one, _ := tree.Parse(src)
		other, _ := tree.Parse(src)
		was := slices.Clone(one)
		text, _ := tree.Print(one)
		grown := append(one, api.Node{Kind: 1, Text: "one"})
		other = append(other, api.Node{Kind: 2, Text: "other"})
		if grown[len(was)].Text != "one" || other[len(was)].Text != "other" {
			t.Fatalf("%q: two rows share their room", src)
		}
		for i := range one {
			one[i] = api.Node{Kind: -1, Text: "over"}
		}
		if !slices.Equal(other[:len(was)], was) {
			t.Fatalf("%q: two rows share their nodes", src)
		}
		again, _ := tree.Parse(src)
		if printed, _ := tree.Print(again); !slices.Equal(again, was) || printed != text {
			t.Fatalf("%q: what was answered has been kept", src)
		}
	}
}

// What was asked before is not seen in an answer, faults neither.
func TestAskedAgain(t *testing.T) {
	for range 3 {
		wantFault(t, "fn f(){1=", api.ErrSyntax, 8)
		wantRow(t, "let g;", "Program 0 (Global g 4)")
		wantFault(t, "$", api.ErrByte, 0)
		wantRow(t, "", "Program 0")
		wantRefused(t, nil)
	}
}
