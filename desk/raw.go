package desk

import (
	"casket/api"
	"casket/buf"
)

func isThing(kind int) bool { return kind == api.Row || buf.Width(kind) > 0 }

// isForm tells whether a raw value is of a kind that there is, and has nothing that its kind does not name.
func isForm(r api.Raw) bool {
	rest := r // what is left of it without the field that its kind names
	rest.Len = 0
	switch {
	case r.Kind == api.Nil:
	case r.Kind == api.Bool && (r.Int == 0 || r.Int == 1), r.Kind == api.Int:
		rest.Int = 0
	case r.Kind == api.Float:
		rest.Bits = 0
	case r.Kind == api.Text:
		rest.Text = ""
	case isThing(r.Kind):
		rest.Ref = 0
	default:
		return false
	}
	return rest == api.Raw{Kind: r.Kind}
}

// refusal is why a raw value may not come in.
func (m *Memory) refusal(r api.Raw) api.Errno {
	switch {
	case !isForm(r):
		return api.ErrArg
	case len(r.Text) > api.MaxBytes:
		return api.ErrLong
	case isThing(r.Kind) && !m.holds(r):
		return api.ErrRef
	}
	return api.OK
}

// holds tells whether a thing of that Kind is held by that number.
func (m *Memory) holds(r api.Raw) bool {
	w, held := m.held.thing(r.Ref)
	return held && m.Unbox(w).Kind == r.Kind
}

// comeIn is the word of a raw value that is right.
func (m *Memory) comeIn(r api.Raw) (uint64, api.Errno) {
	v := api.Value{Kind: r.Kind, Int: r.Int, Bits: r.Bits, Text: r.Text}
	if isThing(r.Kind) { // the number 0 of all others is a thing's, too
		v.Ref, _ = m.held.thing(r.Ref)
	}
	return m.Box(v)
}

// take is the word of a raw value, right or not.
func (m *Memory) take(r api.Raw) (uint64, api.Errno) {
	if e := m.refusal(r); e != api.OK {
		return 0, e
	}
	return m.comeIn(r)
}

// takeIn makes raw values what the stack has: all of them, or none. A refusal of a later one goes ahead of an earlier one that finds no room.
func (m *Memory) takeIn(list []api.Raw) api.Errno {
	for _, r := range list {
		if e := m.refusal(r); e != api.OK {
			return e
		}
	}
	for _, r := range list {
		w, e := m.comeIn(r)
		if e != api.OK {
			m.Stack = nil
			return e
		}
		m.Stack = append(m.Stack, w)
	}
	return api.OK
}

// Seen is the value of a word as it goes out, but that no number is given.
func (m *Memory) Seen(w uint64) api.Raw {
	v := m.Unbox(w)
	r := api.Raw{Kind: v.Kind, Int: v.Int, Bits: v.Bits, Text: v.Text}
	if isThing(v.Kind) {
		r.Len, _ = buf.Len(m.Heap, w)
	}
	return r
}

// goOut is the value of a word as it goes out: a thing is held from here on.
func (m *Memory) goOut(w uint64) api.Raw {
	r := m.Seen(w)
	if isThing(r.Kind) {
		r.Ref = m.held.number(w)
	}
	return r
}
