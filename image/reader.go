package image

import (
	"slices"

	"casket/api"
	"casket/vm"
	"casket/word"
)

// reader reads a machine's parts, one behind the other. It gives up at the first that is wrong.
type reader struct {
	parts
	count int64      // how many cells there are said to be
	cells []api.Cell // those that have been read: a word's handle is a place here
}

// machine reads all of it.
func (r *reader) machine() *vm.Machine {
	r.want(r.byte() == mark, api.ErrKind, 0)
	m := r.source()
	k, _ := m.Kept() // no run of it is under way
	k.Units = r.units()
	r.allCells()
	for i := range k.Globals {
		k.Globals[i] = r.word()
	}
	r.things(&k)
	for i := range k.Sites {
		r.site(&k.Sites[i])
	}
	r.want(r.at == len(r.bytes), api.ErrTail, r.at)
	r.restore(m, k)
	return m
}

// source is a machine of it, which has no units yet.
func (r *reader) source() *vm.Machine {
	n := r.short()
	at := r.at
	r.want(n <= api.MaxSource, api.ErrLong, at)
	m, fault := vm.New(string(r.run(n)), 0)
	r.want(fault.Code == api.OK, fault.Code, at+fault.At)
	return m
}

func (r *reader) units() int { return int(r.bounded(api.MaxUnits, api.ErrArg)) }

// things are those that are held.
func (r *reader) things(k *vm.Kept) {
	k.Next = int(r.bounded(mostNumber, api.ErrRef))
	least := 0
	for range r.short() {
		at := r.at
		ref := r.short()
		r.want(ref >= int64(least) && ref < int64(k.Next), api.ErrRef, at)
		least = int(ref) + 1
		k.Refs = append(k.Refs, int(ref))
		k.Things = append(k.Things, r.thing())
	}
}

// thing is a word that leads to a buffer, a view or a row.
func (r *reader) thing() uint64 {
	at := r.at
	w := r.word()
	place, leads := word.ToHandle(w)
	r.want(leads && r.cells[place].Kind != api.Int && r.cells[place].Kind != api.Text, api.ErrRef, at)
	return w
}

// restore makes a machine keep what has been read. Each part is right for itself: what is wrong with all of them together is told at the beginning.
func (r *reader) restore(m *vm.Machine, k vm.Kept) {
	r.wantOrder(slices.Concat(k.Globals, k.Things))
	e := m.Restore(k, r.cells)
	r.want(e != api.ErrArg, api.ErrCell, 0) // all but the cells has been looked at
	r.want(e == api.OK, e, 0)
}

// wantOrder refuses cells that are come to at other places than they stand at, or not at all.
func (r *reader) wantOrder(from []uint64) {
	next := uint64(0)
	numbered(from, func(w uint64) []uint64 {
		place, _ := word.ToHandle(w)
		r.want(place == next, api.ErrCell, 0)
		next++
		return leadsTo(r.cells[place])
	})
	r.want(next == uint64(len(r.cells)), api.ErrCell, 0)
}
