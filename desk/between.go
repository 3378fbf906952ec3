package desk

import (
	"casket/api"
	"casket/buf"
)

// What is asked of a machine between runs.

// Global is the value of a global.
func (d *Desk) Global(name string) (api.Raw, api.Errno) {
	i, e := d.global(name)
	if e != api.OK {
		return api.Raw{}, e
	}
	return d.Memory.goOut(d.Memory.Globals[i]), api.OK
}

// SetGlobal makes a global another value.
func (d *Desk) SetGlobal(name string, r api.Raw) api.Errno {
	i, e := d.global(name)
	if e != api.OK {
		return e
	}
	w, e := d.Memory.take(r)
	if e != api.OK {
		return e
	}
	d.Memory.Globals[i] = w
	return api.OK
}

// global is the number of a global that may be asked for.
func (d *Desk) global(name string) (int, api.Errno) {
	if d.run != nil {
		return 0, api.ErrState
	}
	i, known := d.Names.Globals[name]
	if !known {
		return 0, api.ErrName
	}
	return i, api.OK
}

// Peek is an element of a thing that is held.
func (d *Desk) Peek(ref int, i int64) (api.Raw, api.Errno) {
	thing, e := d.thing(ref)
	if e != api.OK {
		return api.Raw{}, e
	}
	w, e := buf.Load(d.Memory.Heap, thing, i)
	if e != api.OK {
		return api.Raw{}, e
	}
	return d.Memory.goOut(w), api.OK
}

// Poke makes an element of a thing that is held another value.
func (d *Desk) Poke(ref int, i int64, r api.Raw) api.Errno {
	thing, e := d.thing(ref)
	if e != api.OK {
		return e
	}
	w, e := d.Memory.take(r)
	if e != api.OK {
		return e
	}
	return buf.Store(d.Memory.Heap, thing, i, w)
}

// Release lets a thing go: it is held no more.
func (d *Desk) Release(ref int) api.Errno {
	if _, e := d.thing(ref); e != api.OK {
		return e
	}
	d.Memory.held.release(ref)
	return api.OK
}

// thing is the word of a thing that may be asked for.
func (d *Desk) thing(ref int) (uint64, api.Errno) {
	if d.run != nil {
		return 0, api.ErrState
	}
	w, held := d.Memory.held.thing(ref)
	if !held {
		return 0, api.ErrRef
	}
	return w, api.OK
}

// Reach is how many units the cells need that are reached now, in a run or between two.
func (d *Desk) Reach() int {
	if d.Memory.Heap == nil {
		return 0 // New has not made this one
	}
	return d.Memory.Heap.Reach(d.Memory.Roots())
}
