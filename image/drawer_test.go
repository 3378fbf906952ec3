package image_test

import (
	"fmt"
	"math/rand"
	"testing"

	"casket/api"
	"casket/image"
	"casket/vm"
)

// drawn is a source whose functions make things of each kind, link them, let them go, and meet numbers.
const drawn = `let a; let b; let c; let d; let e;
fn make(k, n) { if k == 0 { return row(n); } if k == 1 { return u8(n); } if k == 2 { return i16(n); } if k == 3 { return f32(n); } return f64(n); }
fn look(x, k, i, n) { return view(x, k, i, n); }
fn put(x, i, y) { x[i] = y; return x; }
fn add(x, y) { return x + y; }
fn meet(x, y) { if x < y or x == y { return x * y - x; } return x // y % 7; }
fn grow(s, n) { d = s; for i in 0..n { d = d + s; } return len(d); }
fn nest(n) { a = nil; for i in 0..n { let r = row(2); r[i % 2] = a; r[1 - i % 2] = b; a = r; } b = a; return a; }
fn ring(n) { let r = row(n); for i in 0..n { r[i] = r; } c = r; }
fn churn(n) { for i in 0..n { let r = row(4); r[0] = "what is left over"; r[1] = i * 281474976710656; e = r[i % 3]; } }
fn drop() { a = nil; b = nil; c = nil; }`

// brief has less of it: it is read often.
const brief = `let a;let b;let c;let d;let e;fn make(k,n){if k==0{return row(n);}if k==1{return u8(n);}return f32(n);}fn look(x,k,i,n){return view(x,k,i,n);}fn put(x,i,y){x[i]=y;return x;}fn meet(x,y){return x*y;}`

// drawer draws what is done to machines.
type drawer struct {
	*rand.Rand
	refs []api.Raw // things that went out, released or not
}

// deed is something that is done to a machine, and what it tells of that.
type deed func(m *vm.Machine) (told string, out api.Raw)

func (d *drawer) pick(list ...api.Raw) api.Raw { return list[d.Intn(len(list))] }

func (d *drawer) thing() api.Raw {
	if len(d.refs) == 0 || d.Intn(30) == 0 {
		return api.Raw{Kind: api.Row, Ref: d.Intn(40)}
	}
	return d.refs[max(0, len(d.refs)-1-d.Intn(12))]
}

func (d *drawer) value() api.Raw {
	switch d.Intn(5) {
	case 0, 1:
		return d.thing()
	case 2:
		return d.pick(text(""), text("hello"), text("hello!"), text("\x00\xff"), text(filler(d.Intn(40))))
	}
	return d.number()
}

func (d *drawer) number() api.Raw {
	return d.pick(whole(0), whole(1), whole(-3), whole(200), whole(1<<47-1), whole(1<<47), whole(-1<<63), double(one), double(half), double(0xfff8000000000001), null, truth(true))
}

func (d *drawer) index() api.Raw { return whole(int64(d.Intn(5))) }

// call is a function's name, and arguments for it.
func (d *drawer) call() (string, []api.Raw) {
	switch d.Intn(12) {
	case 0, 1:
		return "make", []api.Raw{d.index(), whole(int64(d.Intn(9)))}
	case 2:
		return "look", []api.Raw{d.thing(), d.pick(text("u8"), text("i16"), text("f32"), text("f64")), d.pick(whole(0), whole(2), whole(8)), d.index()}
	case 3, 4:
		return "put", []api.Raw{d.thing(), d.index(), d.value()}
	case 5:
		return "add", []api.Raw{d.value(), d.value()}
	case 6:
		return "grow", []api.Raw{d.value(), d.index()}
	case 7:
		return "nest", []api.Raw{whole(int64(d.Intn(12)))}
	case 8:
		return d.one("ring", "churn"), []api.Raw{whole(int64(d.Intn(8)))}
	case 9:
		return d.one("drop", "drop", "nobody"), nil
	}
	if d.Intn(2) == 0 {
		x := d.pick(whole(5), double(one))
		return "meet", []api.Raw{x, x}
	}
	return "meet", []api.Raw{d.number(), d.number()}
}

func (d *drawer) one(list ...string) string { return list[d.Intn(len(list))] }

func (d *drawer) deed() deed {
	i, r, name := int64(d.Intn(6)-1), d.value(), d.one("a", "b", "c", "d", "e", "f")
	ref := d.thing().Ref
	switch d.Intn(16) {
	case 0:
		return func(m *vm.Machine) (string, api.Raw) { return "set", of(m.SetGlobal(name, r)) }
	case 1:
		return func(m *vm.Machine) (string, api.Raw) { return told(m.Global(name)) }
	case 2, 3:
		return func(m *vm.Machine) (string, api.Raw) { return told(m.Peek(ref, i)) }
	case 4, 5:
		return func(m *vm.Machine) (string, api.Raw) { return "poke", of(m.Poke(ref, i, r)) }
	case 6, 7:
		return func(m *vm.Machine) (string, api.Raw) { return "release", of(m.Release(ref)) }
	case 8:
		site, form := d.Intn(15), d.Intn(4)
		return func(m *vm.Machine) (string, api.Raw) { return "force", of(m.Force(site, form)) }
	case 9:
		return d.steps()
	}
	called, args := d.call()
	fuel := []int64{1000, 1000, 1000, 7}[d.Intn(4)]
	return func(m *vm.Machine) (string, api.Raw) {
		end, e := m.Run(called, args, fuel)
		return fmt.Sprint(called, end, e), end.Value
	}
}

// steps is a run that is gone through step by step; it cannot be saved on the way.
func (d *drawer) steps() deed {
	name, args := d.call()
	return func(m *vm.Machine) (string, api.Raw) {
		if e := m.Start(name, args, 99); e != api.OK {
			return "start", of(e)
		}
		list := ""
		for m.Step() {
			s, ok := m.State()
			_, e := image.Save(m)
			list += fmt.Sprint(s, ok, e, m.Reach())
		}
		end, ok := m.End()
		return fmt.Sprint(list, end, ok), end.Value
	}
}

// of is an error, told as a value.
func of(e api.Errno) api.Raw { return whole(int64(e)) }

func told(r api.Raw, e api.Errno) (string, api.Raw) { return fmt.Sprint("told", e), r }

// do does it to a machine, and tells all of it.
func do(m *vm.Machine, x deed) (string, api.Raw) {
	what, out := x(m)
	return fmt.Sprint(what, out, m.Reach(), m.Sites()), out
}

// met keeps what went out.
func (d *drawer) met(r api.Raw) {
	if r.Kind >= api.F64 {
		d.refs = append(d.refs, r)
	}
}

// drawnMachine is one of brief to which much was done.
func drawnMachine(t testing.TB, seed int64) *vm.Machine {
	d := &drawer{Rand: rand.New(rand.NewSource(seed))}
	m := open(t, brief, 20+d.Intn(200))
	for range d.Intn(60) {
		_, out := do(m, d.deed())
		d.met(out)
	}
	return m
}
