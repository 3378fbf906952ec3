package image_test

import (
	"bytes"
	"math/rand"
	"slices"
	"testing"

	"casket/api"
	"casket/image"
)

// R3: what is handed in is neither changed nor kept, and what is answered shares nothing with what is kept. R4: nothing hangs on what was asked before.

// asked are bytes of each sort: some are taken, others refused in each way.
func asked(t testing.TB) [][]byte {
	list := [][]byte{
		nil, nothing, nothing[:3], {68}, {67, 128, 0}, {67, 1, '$'}, append(slices.Clone(nothing), 0), chained(40, 80), chained(40, 79),
		global(99, viewCell(api.I16, 1, 2, 1), bufCell(api.U8, 1, 2, 3, 4)), global(99, viewCell(api.I16, 1, 1, 1), bufCell(api.U8, 1, 2, 3, 4)),
	}
	for seed := range int64(6) {
		list = append(list, save(t, drawnMachine(t, seed)))
	}
	return list
}

// What is handed to Load may be written over behind the call, and what lies behind its end is not read.
func TestLoadApart(t *testing.T) {
	for _, was := range asked(t) {
		want := modelled(was)
		full := append(slices.Clone(was), 1, 2, 3, 4, 5, 6, 7, 8, 9)
		room := slices.Clone(full)
		b := full[:len(was)]
		m, e, at := image.Load(b)
		if e != want.code || at != want.place {
			t.Errorf("Load(%s): %d at %d; want %d at %d", short(was), e, at, want.code, want.place)
		}
		if !bytes.Equal(full, room) {
			t.Errorf("Load(%s) has changed its bytes", short(was))
		}
		for i := range full {
			full[i] = 0xaa
		}
		if m != nil && !bytes.Equal(save(t, m), was) {
			t.Errorf("Load(%s) has kept its bytes", short(was))
		}
	}
}

// What Save answers may be written over and grown.
func TestSaveApart(t *testing.T) {
	for seed := range int64(6) {
		m := drawnMachine(t, seed)
		first, second := save(t, m), save(t, m)
		want := slices.Clone(first)
		grown, other := append(first, 1), append(second, 2)
		if grown[len(want)] != 1 || other[len(want)] != 2 {
			t.Error("two answers share their room")
		}
		for i := range first {
			first[i] = 0xaa
		}
		if !bytes.Equal(second, want) {
			t.Error("two answers share their bytes")
		}
		if !bytes.Equal(save(t, m), want) {
			t.Error("the machine shares its bytes")
		}
	}
}

// Two machines of the same bytes are two: what is done to one is not done to the other.
func TestMachinesApart(t *testing.T) {
	for seed := range int64(6) {
		b := save(t, drawnMachine(t, seed))
		one, other := load(t, b), load(t, b)
		d := &drawer{Rand: rand.New(rand.NewSource(seed))}
		for range 40 {
			_, out := do(one, d.deed())
			d.met(out)
		}
		if !bytes.Equal(save(t, other), b) {
			t.Error("two machines have something in common")
		}
	}
}

// The machine that was saved goes on, and what was loaded of it stays.
func TestSavedApart(t *testing.T) {
	p := play(t, maker, 99)
	r := p.run("row_", whole(2))
	p.poke(r, 0, text("abcdef"))
	p.set("a", r)
	b := save(t, p.Machine)
	j := &player{t, load(t, b)}
	p.poke(r, 0, whole(5))
	p.run("add", whole(1), whole(2))
	if x, e := j.Peek(r.Ref, 0); x != text("abcdef") || e != api.OK {
		t.Error(x, e)
	}
	j.poke(r, 1, text("another"))
	if x, e := p.Peek(r.Ref, 1); x != null || e != api.OK {
		t.Error(x, e)
	}
}

func TestAskedAgain(t *testing.T) {
	for range 3 {
		for _, b := range asked(t) {
			holdAgainst(t, b)
			holdAgainst(t, b)
		}
		m := drawnMachine(t, 3)
		b := save(t, m)
		for range 3 {
			if !bytes.Equal(save(t, m), b) {
				t.Error("Save has changed the machine")
			}
		}
	}
}
