// Package desk: what the tree machine and the register machine have in common: what they keep from run to run, and how values and runs go in and out: see DOC.md, chapter 15.
package desk

import (
	"iter"
	"slices"

	"casket/api"
	"casket/check"
	"casket/heap"
)

// Run is one that is under way.
type Run interface {
	// GoOn goes on till one more tick has been made; false: the run has ended.
	GoOn() bool
	// State is how it stands behind its last tick; without Ticks there was none.
	State() api.State
	// End is how it has ended; the word is that of its value, which a run has that went well.
	End() (api.End, uint64)
}

// Desk is where a machine is asked.
type Desk struct {
	Names  Names
	Memory Memory
	run    Run      // the one that is under way
	end    *api.End // of the last run, if another one has not begun
}

// Names are those of a source's functions and globals.
type Names struct {
	Params  map[string]int // of each function: how many parameters it has
	Globals map[string]int // of each global: its number, in the order of the source
}

// Open is the desk of a source's machine, with a heap of so many units; and the source's tree.
func Open(src string, units int) (Desk, []api.Node, api.Fault) {
	h, e := heap.New(units)
	if e != api.OK {
		return Desk{}, nil, api.Fault{Code: e}
	}
	l, fault := check.Load(src)
	if fault.Code != api.OK {
		return Desk{}, nil, fault
	}
	names := namesOf(l)
	return Desk{Names: names, Memory: newMemory(h, len(names.Globals))}, l, api.Fault{}
}

// namesOf goes through all nodes: those of these kinds stand nowhere but in the program itself.
func namesOf(l []api.Node) Names {
	n := Names{Params: map[string]int{}, Globals: map[string]int{}}
	for _, node := range l {
		switch node.Kind {
		case api.NodeFunc:
			n.Params[node.Text] = node.Kids - 1 // the last one is its block
		case api.NodeGlobal:
			n.Globals[node.Text] = len(n.Globals)
		}
	}
	return n
}

// Take makes arguments of a function what the stack has, if a run of it with them may begin.
func (d *Desk) Take(name string, args []api.Raw, fuel int64) api.Errno {
	if d.run != nil {
		return api.ErrState
	}
	params, known := d.Names.Params[name]
	switch {
	case !known:
		return api.ErrFunc
	case len(args) != params:
		return api.ErrCount
	case fuel < 0 || fuel > api.MaxFuel:
		return api.ErrRange
	}
	return d.Memory.takeIn(args)
}

// Begin puts a run under way, behind Take.
func (d *Desk) Begin(r Run) { d.run, d.end = r, nil }

// ticks is an iterator: the run goes on from tick to tick, as long as it is asked.
func (d *Desk) ticks(yield func() bool) {
	for d.run != nil {
		if !d.run.GoOn() {
			d.finish()
			return
		}
		if !yield() {
			return
		}
	}
}

// finish keeps how the run has ended; its frames are no roots from here on.
func (d *Desk) finish() {
	end, value := d.run.End()
	if end.Code == api.OK {
		end.Value = d.Memory.goOut(value)
	}
	d.Memory.Stack = nil
	d.run, d.end = nil, &end
}

// Step goes on till one more tick has been made; false: there is no run, or it has ended.
func (d *Desk) Step() bool {
	for range d.ticks {
		return true
	}
	return false
}

// State is how the run stands behind its last tick.
func (d *Desk) State() (api.State, bool) {
	if d.run == nil {
		return api.State{}, false
	}
	s := d.run.State()
	if s.Ticks == 0 {
		return api.State{}, false
	}
	return s, true
}

// Steps goes on from tick to tick, and tells each time how the run stands.
func (d *Desk) Steps() iter.Seq[api.State] {
	return func(yield func(api.State) bool) {
		for range d.ticks {
			if !yield(d.run.State()) {
				return
			}
		}
	}
}

// Finish goes on to the run's end.
func (d *Desk) Finish() api.End {
	for range d.ticks {
	}
	end, _ := d.End()
	return end
}

// End is how the last run has ended.
func (d *Desk) End() (api.End, bool) {
	if d.end == nil {
		return api.End{}, false
	}
	end := *d.end
	end.Out = slices.Clone(end.Out)
	return end, true
}
