package buf_test

import (
	"slices"
	"testing"

	"casket/api"
)

// Promises 9.3 to 9.6: what is told of words that are no things, ahead of all else that is wrong.

// bad is a word that is no thing, and what is told of it.
type bad struct {
	w uint64
	e api.Errno
}

// bads are words of each class that are no things: in a word, in a cell, and of no cell.
func (s *sample) bads() []bad {
	var all []bad
	for _, w := range strays {
		all = append(all, bad{w, api.ErrStray})
	}
	for _, w := range append(slices.Clone(nobodys), s.gone) {
		all = append(all, bad{w, api.ErrHandle})
	}
	for _, w := range plains {
		all = append(all, bad{w, api.ErrType})
	}
	for _, w := range s.of(func(c api.Cell) bool { return !isThing(c) }) {
		all = append(all, bad{w, api.ErrType})
	}
	return all
}

// The sample is of every sort: a test that leaves one out would not be told.
func TestSampleIsOfEachSort(t *testing.T) {
	s := newSample(t, 200)
	counts, kinds, views := map[api.Errno]int{}, map[int]int{}, map[int]int{}
	for _, x := range s.bads() {
		counts[x.e]++
	}
	for _, c := range s.cells {
		if c.View {
			views[c.Kind]++
		} else {
			kinds[c.Kind]++
		}
	}
	if counts[api.ErrStray] == 0 || counts[api.ErrHandle] == 0 || counts[api.ErrType] == 0 || len(kinds) != 7 || len(views) != 4 {
		t.Errorf("the bads are %v, cells %v, views %v", counts, kinds, views)
	}
}

func TestWrongWord(t *testing.T) {
	s := newSample(t, 200)
	for _, x := range s.bads() {
		wantNoLen(t, s.h, x.w, x.e)
		wantNoLoad(t, s.h, x.w, 0, x.e)
		wantNoStore(t, s.h, x.w, 0, smallWord(0), x.e)
		for _, kind := range buffers {
			wantNoView(t, s.h, x.w, kind, 0, 0, x.e)
		}
	}
	for _, w := range s.of(func(c api.Cell) bool { return c.Kind == api.Row }) {
		for _, kind := range buffers {
			wantNoView(t, s.h, w, kind, 0, 0, api.ErrType)
		}
	}
	wantSame(t, s.h, "all of it", s.cells)
}

// What is wrong with w is told, whatever is wrong with the place, and with what is stored.
func TestWrongWordBesideMore(t *testing.T) {
	s := newSample(t, 200)
	for _, x := range s.bads() {
		for _, i := range []int64{-1, 0, 1, 1 << 32, least, most} {
			wantNoLoad(t, s.h, x.w, i, x.e)
			for _, y := range []uint64{nilWord, strays[0], nobodys[0], s.gone, doubleWord(0.5), smallWord(1 << 40)} {
				wantNoStore(t, s.h, x.w, i, y, x.e)
			}
			for _, kind := range []int{api.U8, api.F64, api.Row, api.Nil, -1} {
				wantNoView(t, s.h, x.w, kind, i, -i, x.e)
			}
		}
	}
	wantSame(t, s.h, "all of it", s.cells)
}

// A place that is none is told ahead of what is stored; that, ahead of what its kind takes.
func TestWrongPlaceBesideMore(t *testing.T) {
	s := newSample(t, 200)
	for _, w := range s.of(isThing) {
		n, _ := length(t, s.h, w)
		for _, x := range slices.Concat([]uint64{s.gone}, strays[:3], nobodys, plains) {
			for _, i := range []int64{-1, int64(n), int64(n) + 1, least, most} {
				wantNoStore(t, s.h, w, i, x, api.ErrIndex)
			}
		}
		if n == 0 {
			continue
		}
		for _, x := range strays {
			wantNoStore(t, s.h, w, 0, x, api.ErrStray)
		}
		for _, x := range append(slices.Clone(nobodys), s.gone) {
			wantNoStore(t, s.h, w, 0, x, api.ErrHandle)
		}
	}
	wantSame(t, s.h, "all of it", s.cells)
}

// A thing whose cell was swept is told of as one that was never there.
func TestWrongBehindCollect(t *testing.T) {
	for _, kind := range things {
		h := newHeap(t, 10)
		w := wantNew(t, h, kind, 2)
		wantLen(t, h, w, 2)
		h.Collect(nil)
		wantNoLen(t, h, w, api.ErrHandle)
		wantNoLoad(t, h, w, 5, api.ErrHandle)
		wantNoStore(t, h, w, -1, strays[0], api.ErrHandle)
		wantNoView(t, h, w, api.Row, -1, -1, api.ErrHandle, w)
	}
}

// What is stored may be gone, too.
func TestWrongStoreBehindCollect(t *testing.T) {
	for _, kind := range things {
		h := newHeap(t, 10)
		w := wantNew(t, h, kind, 2)
		x := put(t, h, number(5), w)
		wantStore(t, h, w, 0, x)
		wantStore(t, h, w, 0, smallWord(6))
		h.Collect([]uint64{w})
		wantNoStore(t, h, w, 0, x, api.ErrHandle)
		wantNoStore(t, h, w, 2, x, api.ErrIndex)
		wantLoad(t, h, w, 0, numberWord(kind, 6))
	}
}
