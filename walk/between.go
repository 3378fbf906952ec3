package walk

import (
	"casket/api"
	"casket/buf"
)

// What is asked of a machine between runs.

// Global is the value of a global.
func (m *Machine) Global(name string) (api.Raw, api.Errno) {
	i, e := m.global(name)
	if e != api.OK {
		return api.Raw{}, e
	}
	return m.memory.goOut(m.memory.globals[i]), api.OK
}

// SetGlobal makes a global another value.
func (m *Machine) SetGlobal(name string, r api.Raw) api.Errno {
	i, e := m.global(name)
	if e != api.OK {
		return e
	}
	w, e := m.memory.take(r)
	if e != api.OK {
		return e
	}
	m.memory.globals[i] = w
	return api.OK
}

// global is the number of a global that may be asked for.
func (m *Machine) global(name string) (int, api.Errno) {
	if m.run != nil {
		return 0, api.ErrState
	}
	i, known := m.program.globals[name]
	if !known {
		return 0, api.ErrName
	}
	return i, api.OK
}

// Peek is an element of a thing that is held.
func (m *Machine) Peek(ref int, i int64) (api.Raw, api.Errno) {
	thing, e := m.thing(ref)
	if e != api.OK {
		return api.Raw{}, e
	}
	w, e := buf.Load(m.memory.heap, thing, i)
	if e != api.OK {
		return api.Raw{}, e
	}
	return m.memory.goOut(w), api.OK
}

// Poke makes an element of a thing that is held another value.
func (m *Machine) Poke(ref int, i int64, r api.Raw) api.Errno {
	thing, e := m.thing(ref)
	if e != api.OK {
		return e
	}
	w, e := m.memory.take(r)
	if e != api.OK {
		return e
	}
	return buf.Store(m.memory.heap, thing, i, w)
}

// Release lets a thing go: it is held no more.
func (m *Machine) Release(ref int) api.Errno {
	if _, e := m.thing(ref); e != api.OK {
		return e
	}
	m.memory.held.release(ref)
	return api.OK
}

// thing is the word of a thing that may be asked for.
func (m *Machine) thing(ref int) (uint64, api.Errno) {
	if m.run != nil {
		return 0, api.ErrState
	}
	w, held := m.memory.held.thing(ref)
	if !held {
		return 0, api.ErrRef
	}
	return w, api.OK
}

// Reach is how many units the cells need that are reached now, in a run or between two.
func (m *Machine) Reach() int {
	if m.memory.heap == nil {
		return 0 // New has not made this one
	}
	return m.memory.heap.Reach(m.memory.roots())
}
