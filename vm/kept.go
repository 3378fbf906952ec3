package vm

import (
	"casket/api"
	"casket/desk"
	"casket/heap"
	"casket/site"
)

// Kept is what a machine keeps from run to run, but for its cells.
type Kept struct {
	desk.Kept
	Source string
	Units  int
	Sites  []site.State
}

// Kept is what is kept now; api.ErrState, if a run is under way.
func (m *Machine) Kept() (Kept, api.Errno) {
	words, e := m.desk.Kept()
	if e != api.OK {
		return Kept{}, e
	}
	k := Kept{Kept: words, Source: m.source}
	if h := m.desk.Memory.Heap; h != nil { // New has made this one
		k.Units = h.Room()
	}
	for _, s := range m.program.sites {
		k.Sites = append(k.Sites, s.State())
	}
	return k, api.OK
}

// Cell is a copy of the cell that a word leads to; api.ErrHandle, if it leads to none.
func (m *Machine) Cell(w uint64) (api.Cell, api.Errno) {
	if m.desk.Memory.Heap == nil { // New has not made this one
		return api.Cell{}, api.ErrHandle
	}
	return m.desk.Memory.Heap.Get(w)
}

// Restore makes the machine keep all that, with these cells, and nothing that it kept ahead: a word's handle is a cell's place in the list. It is refused with api.ErrState, if a run is under way; api.ErrArg, if no machine of its source could keep that; api.ErrMemory, if the cells need more than the units.
func (m *Machine) Restore(k Kept, cells []api.Cell) api.Errno {
	if m.desk.UnderWay() {
		return api.ErrState
	}
	if k.Source != m.source {
		return api.ErrArg
	}
	sites, e := m.program.standing(k.Sites)
	if e != api.OK {
		return e
	}
	h, e := heap.Filled(k.Units, cells)
	if e != api.OK {
		return e
	}
	if e := m.desk.Restore(h, k.Kept); e != api.OK {
		return e
	}
	m.program.sites = sites
	for _, in := range m.program.homes {
		m.program.rewrite(in)
	}
	return api.OK
}

// standing are sites of the program that stand like that.
func (p *program) standing(states []site.State) ([]*site.Site, api.Errno) {
	if len(states) != len(p.places) {
		return nil, api.ErrArg
	}
	var sites []*site.Site
	for i, state := range states {
		s, e := site.Of(state)
		if e != api.OK || state.Told.At != p.places[i] {
			return nil, api.ErrArg
		}
		sites = append(sites, s)
	}
	return sites, api.OK
}
