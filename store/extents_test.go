package store_test

import (
	"iter"
	"slices"
	"testing"

	"casket/api"
	"casket/store"
)

// Promise 5.5: that extents rise by At, and those with the same At by Id, the model looks at behind each call.

func TestExtentsOfNone(t *testing.T) {
	s := store.New()
	for range 2 {
		for x := range s.Extents() {
			t.Fatal(x)
		}
	}
	wantTake(t, s, 6, 0, api.OK)
	wantTake(t, s, 0, 1, api.OK)
	wantGive(t, s, 1, api.OK)
	wantGive(t, s, 0, api.OK)
	for x := range s.Extents() {
		t.Fatal(x)
	}
}

// sample has extents with bytes and without, in another order than their Ids'.
func sample(t *testing.T) *model {
	m := newModel(t)
	for _, n := range []int{8, 0, 24, 3, 0, 16, 0, 9} {
		m.take(n)
	}
	m.give(0)
	m.give(3)
	m.give(4)
	m.take(40)
	m.take(2)
	m.take(0)
	m.take(0)
	return m
}

func TestExtentsAllOfThem(t *testing.T) {
	m := sample(t)
	ids := []int{}
	for x := range m.s.Extents() {
		ids = append(ids, x.Id)
		wantLen(t, m.s, x.Id, x.Len, api.OK)
	}
	slices.Sort(ids)
	if !slices.Equal(ids, m.ids()) {
		t.Fatal(ids, m.ids())
	}
}

// Extents without bytes alone have nowhere to lie but at one place: they are told by Id.
func TestExtentsAtOnePlace(t *testing.T) {
	m := newModel(t)
	for range 12 {
		m.take(0)
	}
	for _, id := range []int{7, 2, 9, 0} {
		m.give(id)
	}
	m.take(0)
	m.pack()
	at := []int{}
	for x := range m.s.Extents() {
		if x.At != 0 || x.Len != 0 {
			t.Fatal(x)
		}
		at = append(at, x.Id)
	}
	if !slices.Equal(at, []int{0, 1, 3, 4, 5, 6, 8, 10, 11}) {
		t.Fatal(at)
	}
}

func TestExtentsLeftEarly(t *testing.T) {
	m := sample(t)
	all := extents(m.s)
	for stop := range len(all) {
		var got []api.Extent
		for x := range m.s.Extents() {
			got = append(got, x)
			if len(got) == stop+1 {
				break
			}
		}
		if !slices.Equal(got, all[:stop+1]) {
			t.Fatalf("%v; want %v", got, all[:stop+1])
		}
	}
	m.look()
}

// No more is told once it is not asked for.
func TestExtentsNotAsked(t *testing.T) {
	m := sample(t)
	for stop := range len(m.have) + 1 {
		calls := 0
		m.s.Extents()(func(api.Extent) bool {
			calls++
			return calls <= stop
		})
		if want := min(stop+1, len(m.have)); calls != want {
			t.Fatalf("%d are told; want %d", calls, want)
		}
	}
}

func TestExtentsTwice(t *testing.T) {
	m := sample(t)
	seq := m.s.Extents()
	all := slices.Collect(seq)
	for range 2 {
		if again := slices.Collect(seq); !slices.Equal(again, all) {
			t.Fatalf("%v; want %v", again, all)
		}
	}
	next, stop := iter.Pull(seq)
	defer stop()
	for _, want := range all { // two at once
		got, ok := next()
		if inner := slices.Collect(seq); !slices.Equal(inner, all) || !ok || got != want {
			t.Fatal(inner, ok, got, want)
		}
	}
}

// Whoever is told may change the store: what is told is as it lay in the beginning.
func TestExtentsChangedOnTheWay(t *testing.T) {
	for name, change := range map[string]func(m *model, x api.Extent){
		"give":  func(m *model, x api.Extent) { m.give(x.Id) },
		"take":  func(m *model, x api.Extent) { m.take(x.Len + 1) },
		"pack":  func(m *model, x api.Extent) { m.pack() },
		"other": func(m *model, x api.Extent) { m.give(x.Id / 2); m.take(90) },
	} {
		t.Run(name, func(t *testing.T) {
			m := sample(t)
			want := extents(m.s)
			var got []api.Extent
			for x := range m.s.Extents() {
				got = append(got, x)
				change(m, x)
			}
			if !slices.Equal(got, want) {
				t.Fatalf("%v; want %v", got, want)
			}
		})
	}
}
