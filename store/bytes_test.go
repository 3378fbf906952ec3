package store_test

import (
	"math/big"
	"testing"

	"casket/api"
)

// Promise 5.3.

var widths = []int{1, 2, 4, 8}

// strangeWidths are none.
var strangeWidths = []int{least, least + 1, -16, -8, -4, -2, -1, 0, 3, 5, 6, 7, 9, 10, 12, 15, 16, 24, 32, 64, 256, 1 << 32, most - 1, most}

// farOffs lie far outside of every extent, multiples of widths or not.
var farOffs = []int{
	least, least + 1, least + 2, least + 4, least + 8, -1 << 62, -1 << 32, -1<<32 + 1, -api.MaxBytes, -64, -63,
	100, 101, 1000, api.MaxBytes, 1<<31 - 1, 1 << 31, 1 << 32, 1<<32 + 1, 1<<62 - 1, 1 << 62, most - 9, most - 8, most - 7, most - 6, most - 5, most - 4, most - 3, most - 2, most - 1, most,
}

// refused says by plain numbers why bytes of an extent of n bytes are none.
func refused(n, off, width int) api.Errno {
	if width != 1 && width != 2 && width != 4 && width != 8 {
		return api.ErrKind
	}
	from, w := big.NewInt(int64(off)), big.NewInt(int64(width))
	if new(big.Int).Mod(from, w).Sign() != 0 {
		return api.ErrAlign
	}
	if from.Sign() < 0 || new(big.Int).Add(from, w).Cmp(big.NewInt(int64(n))) > 0 {
		return api.ErrIndex
	}
	return api.OK
}

// Every offset about an extent, with every width: what is told, and what is written.
func TestEveryOffset(t *testing.T) {
	for n := range 20 {
		m := newModel(t)
		m.take(13)
		id := m.take(n)
		m.take(7)
		offs := append([]int{}, farOffs...)
		for off := -20; off <= n+20; off++ {
			offs = append(offs, off)
		}
		c := chance(n)
		for _, off := range offs {
			for _, width := range append(widths, strangeWidths...) {
				tryBytes(m, id, off, width, c.word())
			}
		}
	}
}

func tryBytes(m *model, id, off, width int, x uint64) {
	m.t.Helper()
	if e := refused(len(m.have[id]), off, width); e != api.OK {
		wantLoad(m.t, m.s, id, off, width, 0, e)
		wantSave(m.t, m.s, id, off, width, x, e)
		m.look()
		return
	}
	m.save(id, off, width, x)
	m.look()
	want := uint64(0)
	for i := range width {
		want |= uint64(m.have[id][off+i]) << (8 * i)
	}
	wantLoad(m.t, m.s, id, off, width, want, api.OK)
}

// Where several errors apply, the first is told.
func TestFirstError(t *testing.T) {
	m := newModel(t)
	m.take(6)
	for _, x := range []struct {
		id, off, width int
		e              api.Errno
	}{
		{1, -1, 3, api.ErrPlace}, {-1, 99, 0, api.ErrPlace}, {most, most, most, api.ErrPlace}, {least, least, least, api.ErrPlace}, {1, 1, 2, api.ErrPlace}, {1, 8, 8, api.ErrPlace},
		{0, -1, 3, api.ErrKind}, {0, 7, 0, api.ErrKind}, {0, 99, 16, api.ErrKind}, {0, most, -8, api.ErrKind}, {0, 1, -1, api.ErrKind},
		{0, -1, 2, api.ErrAlign}, {0, 7, 2, api.ErrAlign}, {0, 99, 8, api.ErrAlign}, {0, 4, 8, api.ErrAlign}, {0, most, 8, api.ErrAlign}, {0, least + 1, 4, api.ErrAlign}, {0, 2, 4, api.ErrAlign},
		{0, -2, 2, api.ErrIndex}, {0, 6, 2, api.ErrIndex}, {0, 4, 4, api.ErrIndex}, {0, 0, 8, api.ErrIndex}, {0, 8, 8, api.ErrIndex}, {0, most - 7, 8, api.ErrIndex}, {0, most, 1, api.ErrIndex}, {0, least, 8, api.ErrIndex}, {0, 6, 1, api.ErrIndex}, {0, -1, 1, api.ErrIndex},
	} {
		wantLoad(t, m.s, x.id, x.off, x.width, 0, x.e)
		wantSave(t, m.s, x.id, x.off, x.width, 0x1122334455667788, x.e)
		m.look()
	}
}

func TestLowestFirst(t *testing.T) {
	m := newModel(t)
	m.take(16)
	m.save(0, 8, 8, 0x8877665544332211)
	for i := range 8 {
		wantLoad(t, m.s, 0, 8+i, 1, uint64(0x11*(i+1)), api.OK)
	}
	wantLoad(t, m.s, 0, 8, 2, 0x2211, api.OK)
	wantLoad(t, m.s, 0, 10, 2, 0x4433, api.OK)
	wantLoad(t, m.s, 0, 8, 4, 0x44332211, api.OK)
	wantLoad(t, m.s, 0, 12, 4, 0x88776655, api.OK)
	wantLoad(t, m.s, 0, 8, 8, 0x8877665544332211, api.OK)
}

// Of what is saved narrow the highest bytes are not written, and what lies beside it stands.
func TestNarrowSaves(t *testing.T) {
	for _, x := range []uint64{0, ^uint64(0), 0x0123456789abcdef, 0x8000000000000080, 0xffffffff00000000, 0x7f} {
		for _, width := range widths {
			for off := 0; off < 24; off += width {
				m := newModel(t)
				m.take(24)
				for at := 0; at < 24; at += 8 {
					m.save(0, at, 8, 0x5a5a5a5a5a5a5a5a)
				}
				m.save(0, off, width, x)
				m.look()
				wantLoad(t, m.s, 0, off, width, x<<(64-8*width)>>(64-8*width), api.OK)
			}
		}
	}
}

// The bytes behind an extent's end, up to the next one, are nobody's.
func TestEndOfExtent(t *testing.T) {
	m := newModel(t)
	for n := range 18 {
		m.take(n)
	}
	for id := range 18 {
		for off := id; off < id+20; off++ {
			wantLoad(t, m.s, id, off, 1, 0, api.ErrIndex)
			wantSave(t, m.s, id, off, 1, 7, api.ErrIndex)
		}
	}
	m.look()
}
