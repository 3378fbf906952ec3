package tree_test

import (
	"math"
	"slices"
	"testing"

	"casket/api"
	"casket/tree"
)

// Promise 12.6: the places of a node's kids, of right rows and of any others.

// endOf is the place behind a node and all that is its own, or the row's end.
func endOf(l []api.Node, i int) int {
	end := i + 1
	for k := 0; k < l[i].Kids && end < len(l); k++ {
		end = endOf(l, end)
	}
	return end
}

func modelKids(l []api.Node, i int) []int {
	var places []int
	if i < 0 || i >= len(l) {
		return nil
	}
	at := i + 1
	for k := 0; k < l[i].Kids && at < len(l); k++ {
		places = append(places, at)
		at = endOf(l, at)
	}
	return places
}

func wantKids(t *testing.T, l []api.Node, i int, want ...int) {
	t.Helper()
	seq := tree.Kids(l, i)
	if got := slices.Collect(seq); !slices.Equal(got, want) {
		t.Fatalf("Kids of %d of %.300s: %v; want %v", i, told(l, 0), got, want)
	}
	if got := slices.Collect(seq); !slices.Equal(got, want) {
		t.Fatalf("asked twice, Kids of %d: %v; want %v", i, got, want)
	}
	for n := range len(want) + 1 {
		if got := first(seq, n+1); !slices.Equal(got, want[:min(n+1, len(want))]) {
			t.Fatalf("left at %d, Kids of %d: %v", n+1, i, got)
		}
	}
}

// first leaves a sequence at its n-th answer.
func first(seq func(func(int) bool), n int) []int {
	var list []int
	seq(func(i int) bool {
		list = append(list, i)
		return len(list) != n
	})
	return list
}

// bare is a row of nodes that have nothing but kids.
func bare(kids ...int) []api.Node {
	var l []api.Node
	for _, k := range kids {
		l = append(l, api.Node{Kids: k})
	}
	return l
}

func TestKids(t *testing.T) {
	l := parsed(t, "let g; fn f(a) { return a - 1 - g; }")
	for i, want := range [][]int{{1, 2}, nil, {3, 4}, nil, {5}, {6}, {7, 10}, {8, 9}, nil, nil, nil} {
		wantKids(t, l, i, want...)
	}
	for _, i := range []int{-1, -2, len(l), len(l) + 1, math.MinInt, math.MaxInt} {
		wantKids(t, l, i)
	}
	for _, i := range []int{-1, 0, 1} {
		wantKids(t, nil, i)
		wantKids(t, []api.Node{}, i)
	}
}

func TestKidsOfEveryNode(t *testing.T) {
	for _, src := range append(sources(), wholes...) {
		l := parsed(t, src)
		for i := range l {
			want := modelKids(l, i)
			if len(want) != l[i].Kids {
				t.Fatalf("node %d of %q has %d kids, of %d", i, src, len(want), l[i].Kids)
			}
			wantKids(t, l, i, want...)
			for n := range len(l) { // rows that end too early
				wantKids(t, l[:n], i, modelKids(l[:n], i)...)
			}
		}
	}
}

func TestKidsOfOddRows(t *testing.T) {
	wantKids(t, bare(2), 0)
	wantKids(t, bare(2, 0), 0, 1)
	wantKids(t, bare(2, 1, 0), 0, 1)
	wantKids(t, bare(2, 1, 0, 0), 0, 1, 3)
	wantKids(t, bare(2, 1, 0, 0, 0), 0, 1, 3)
	wantKids(t, bare(-1, 0, 0), 0)
	wantKids(t, bare(math.MinInt, 0, 0), 0)
	wantKids(t, bare(2, -7, -7, 0), 0, 1, 2)
	wantKids(t, bare(3, math.MinInt, 1, -1, 0), 0, 1, 2, 4)
	wantKids(t, bare(1<<62, 0, 0), 0, 1, 2)
	wantKids(t, bare(math.MaxInt, 0, 0), 0, 1, 2)
	wantKids(t, bare(2, math.MaxInt, math.MaxInt, math.MaxInt, 0), 0, 1)
	wantKids(t, bare(2, 1, math.MaxInt, 0, 0), 0, 1)
	wantKids(t, bare(2, 2, math.MaxInt, 0, 0), 0, 1)
	wantKids(t, bare(2, 2, 1<<62, 1<<62, 1<<62, 1<<62, 0), 0, 1)
	wantKids(t, bare(2, 3, 0, 0, 0, 0), 0, 1, 5)
	wantKids(t, bare(2, 3, 0, 0, 0), 0, 1)
	wantKids(t, bare(math.MaxInt, math.MaxInt-1, 0), 0, 1)
	wantKids(t, bare(math.MaxInt, -1, -1), 0, 1, 2)
}

// Every row of up to five nodes, with few kids and many.
func TestKidsOfEveryShortRow(t *testing.T) {
	some := []int{math.MinInt, -1, 0, 1, 2, 3, math.MaxInt}
	rows := [][]int{nil}
	for range 6 {
		var longer [][]int
		for _, row := range rows {
			l := bare(row...)
			for i := -1; i <= len(l); i++ {
				if got := slices.Collect(tree.Kids(l, i)); !slices.Equal(got, modelKids(l, i)) {
					t.Fatalf("Kids of %d of %v: %v", i, row, got)
				}
			}
			for _, kids := range some {
				longer = append(longer, append(slices.Clip(row), kids))
			}
		}
		rows = longer
	}
}

func TestKidsLeftEarly(t *testing.T) {
	l := bare(5, 0, 1, 0, 0, 0, 0)
	var met []int
	for i := range tree.Kids(l, 0) {
		if met = append(met, i); len(met) == 3 {
			break
		}
	}
	if !slices.Equal(met, []int{1, 2, 4}) {
		t.Errorf("left by break: %v", met)
	}
}

// One sequence within another one, and within itself.
func TestKidsWithin(t *testing.T) {
	l := parsed(t, "fn f(){g(a,b,c);}")
	seq := tree.Kids(l, 4)
	var met []int
	for i := range seq {
		for j := range seq {
			met = append(met, 10*i+j)
		}
		for range tree.Kids(l, 0) {
			met = append(met, -1)
		}
	}
	if !slices.Equal(met, []int{55, 56, 57, -1, 65, 66, 67, -1, 75, 76, 77, -1}) {
		t.Errorf("%v", met)
	}
}

// Rows that nest as deep as they can, and wide ones.
func TestKidsOfLongRows(t *testing.T) {
	const n = 1 << 20
	deep := make([]api.Node, n)
	for i := range n - 1 {
		deep[i].Kids = 1
	}
	for _, i := range []int{0, 1, n / 2, n - 2} {
		wantKids(t, deep, i, i+1)
	}
	wantKids(t, deep, n-1)
	deep[0].Kids = 2
	wantKids(t, deep, 0, 1)
	wantKids(t, append(slices.Clip(deep), api.Node{}), 0, 1, n)
	wide := make([]api.Node, n)
	wide[0].Kids = n - 1
	if got := slices.Collect(tree.Kids(wide, 0)); len(got) != n-1 || got[0] != 1 || got[n-2] != n-1 {
		t.Errorf("%d kids", len(got))
	}
	many := make([]api.Node, n)
	for i := range many {
		many[i].Kids = math.MaxInt
	}
	wantKids(t, many, 0, 1)
	wantKids(t, many, n-2, n-1)
}
