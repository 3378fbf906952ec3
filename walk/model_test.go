package walk_test

import (
	"slices"
	"testing"

	"casket/api"
	"casket/buf"
	"casket/check"
	"casket/heap"
	"casket/ops"
	"casket/tree"
	unboxed "casket/value"
	"casket/word"
)

// model does what the chapter says by calls within calls, and writes down how it stands at each tick. What it needs still it keeps in lists of its own.
type model struct {
	l       []api.Node
	heap    *heap.Heap
	globals []*variable
	held    map[int]uint64
	next    int
	frames  []*modelFrame
	fuel    int64
	told    report
}

type variable struct {
	name string
	word uint64
}

type modelFrame struct {
	vars  []*variable
	needs []uint64
}

// report is all that is told of a run.
type report struct {
	end    api.End
	states []api.State
	reach  []int
}

// stop is thrown where a run is refused.
type stop struct {
	code api.Errno
	at   int
}

// exit is how a statement is left.
type exit struct {
	kind  int // 0, or that of a NodeBreak, NodeContinue or NodeReturn
	label string
	value uint64
}

func newModel(t *testing.T, src string, units int) *model {
	t.Helper()
	l, fault := check.Load(src)
	h, e := heap.New(units)
	if fault.Code != api.OK || e != api.OK {
		t.Fatalf("%.200q, %d units: %v, %d", src, units, fault, e)
	}
	m := &model{l: l, heap: h, held: map[int]uint64{}}
	for at := range tree.Kids(l, 0) {
		if l[at].Kind == api.NodeGlobal {
			m.globals = append(m.globals, &variable{l[at].Text, word.FromNil()})
		}
	}
	return m
}

func (m *model) kids(at int) []int { return slices.Collect(tree.Kids(m.l, at)) }

func (m *model) function(name string) (int, bool) {
	for at := range tree.Kids(m.l, 0) {
		if m.l[at].Kind == api.NodeFunc && m.l[at].Text == name {
			return at, true
		}
	}
	return 0, false
}

func (m *model) frame() *modelFrame { return m.frames[len(m.frames)-1] }

func (m *model) roots() []uint64 {
	var list []uint64
	for _, g := range m.globals {
		list = append(list, g.word)
	}
	for _, w := range m.held {
		list = append(list, w)
	}
	for _, f := range m.frames {
		for _, v := range f.vars {
			list = append(list, v.word)
		}
		list = append(list, f.needs...)
	}
	return list
}

// seen is a value as it goes out, without a number.
func (m *model) seen(w uint64) api.Raw {
	v, e := unboxed.Unbox(m.heap, w)
	if e != api.OK {
		panic("a word that is none")
	}
	r := api.Raw{Kind: v.Kind, Int: v.Int, Bits: v.Bits, Text: v.Text}
	if v.Kind >= api.F64 {
		r.Len, _ = buf.Len(m.heap, w)
	}
	return r
}

func (m *model) goOut(w uint64) api.Raw {
	r := m.seen(w)
	if r.Kind < api.F64 {
		return r
	}
	for ref, thing := range m.held {
		if thing == w {
			r.Ref = ref
			return r
		}
	}
	r.Ref = m.next
	m.held[m.next] = w
	m.next++
	return r
}

// run is asked of arguments that are right, and for which there is room.
func (m *model) run(name string, args []api.Raw, fuel int64) report {
	at, _ := m.function(name)
	var words []uint64
	for _, r := range args {
		v := api.Value{Kind: r.Kind, Int: r.Int, Bits: r.Bits, Text: r.Text}
		if r.Kind >= api.F64 {
			v.Ref = m.held[r.Ref]
		}
		w, e := unboxed.Box(m.heap, v, append(m.roots(), words...))
		if e != api.OK {
			panic("no room for arguments")
		}
		words = append(words, w)
	}
	m.fuel, m.told, m.frames = fuel, report{}, nil
	m.settle(at, words)
	m.frames = nil
	return m.told
}

// settle calls a function, and writes down how that ends.
func (m *model) settle(at int, args []uint64) {
	defer func() {
		thrown := recover()
		if s, ok := thrown.(stop); ok {
			m.told.end.Code, m.told.end.At = s.code, s.at
		} else if thrown != nil {
			panic(thrown)
		}
	}()
	m.told.end.Value = m.goOut(m.call(at, args))
}

func (m *model) refuse(e api.Errno, at int) {
	if e != api.OK {
		panic(stop{e, m.l[at].At})
	}
}

func (m *model) refuseIf(wrong bool, e api.Errno, at int) {
	if wrong {
		m.refuse(e, at)
	}
}

func (m *model) tick(at int) {
	m.refuseIf(m.told.end.Ticks == m.fuel, api.ErrFuel, at)
	m.told.end.Ticks++
	s := api.State{Ticks: m.told.end.Ticks, Depth: len(m.frames), At: m.l[at].At, Out: len(m.told.end.Out)}
	for _, v := range m.frame().vars {
		s.Vars = append(s.Vars, m.seen(v.word))
	}
	m.told.states = append(m.told.states, s)
	m.told.reach = append(m.told.reach, m.heap.Reach(m.roots()))
}

func (m *model) call(at int, args []uint64) uint64 {
	kids := m.kids(at)
	f := &modelFrame{}
	for i, w := range args {
		f.vars = append(f.vars, &variable{m.l[kids[i]].Text, w})
	}
	m.frames = append(m.frames, f)
	m.tick(at)
	out := m.block(kids[len(kids)-1])
	m.frames = m.frames[:len(m.frames)-1]
	if out.kind == api.NodeReturn {
		return out.value
	}
	return word.FromNil()
}

func (m *model) block(at int) exit {
	f := m.frame()
	vars := len(f.vars)
	defer func() { f.vars = f.vars[:vars] }()
	for _, kid := range m.kids(at) {
		if out := m.statement(kid); out.kind != 0 {
			return out
		}
	}
	return exit{}
}

func (m *model) variable(name string) *variable {
	vars := m.frame().vars
	for i := len(vars) - 1; i >= 0; i-- {
		if vars[i].name == name {
			return vars[i]
		}
	}
	for _, g := range m.globals {
		if g.name == name {
			return g
		}
	}
	panic("a name that means nothing")
}

func (m *model) statement(at int) exit {
	m.tick(at)
	node, kids, f := m.l[at], m.kids(at), m.frame()
	switch node.Kind {
	case api.NodeLet:
		w := m.work(kids[0])
		f.vars = append(f.vars, &variable{node.Text, w})
	case api.NodeAssign:
		w := m.work(kids[0])
		m.variable(node.Text).word = w
	case api.NodeStore:
		_, e := ops.Builtin(m.heap, "store", m.all(kids), m.roots())
		m.refuse(e, at)
	case api.NodeExpr:
		m.work(kids[0])
	case api.NodeOut:
		m.out(at, m.work(kids[0]))
	case api.NodeIf:
		if m.truth(m.work(kids[0]), at) {
			return m.block(kids[1])
		}
		if len(kids) == 3 && m.l[kids[2]].Kind == api.NodeIf {
			return m.statement(kids[2])
		}
		if len(kids) == 3 {
			return m.block(kids[2])
		}
	case api.NodeWhile:
		return m.while(at)
	case api.NodeFor:
		return m.count(at)
	case api.NodeReturn:
		if len(kids) == 0 {
			return exit{kind: api.NodeReturn, value: word.FromNil()}
		}
		return exit{kind: api.NodeReturn, value: m.work(kids[0])}
	case api.NodeBreak, api.NodeContinue:
		return exit{kind: node.Kind, label: node.Text}
	}
	return exit{}
}

func (m *model) out(at int, w uint64) {
	line, e := ops.Told(m.heap, w)
	m.refuse(e, at)
	lines := append(m.told.end.Out, line)
	bytes := 0
	for _, line := range lines {
		bytes += len(line) + 1
	}
	m.refuseIf(bytes > api.MaxOut, api.ErrOut, at)
	m.told.end.Out = lines
}

// leaves tells whether a loop with that label is left by an exit out of its block, and how it is left itself then.
func leaves(out exit, label string) (bool, exit) {
	switch {
	case out.kind == 0:
		return false, exit{}
	case out.kind == api.NodeReturn || out.label != "" && out.label != label:
		return true, out
	}
	return out.kind == api.NodeBreak, exit{}
}

func (m *model) while(at int) exit {
	kids := m.kids(at)
	for {
		m.tick(at)
		if !m.truth(m.work(kids[0]), at) {
			return exit{}
		}
		if left, out := leaves(m.block(kids[1]), m.l[at].Text); left {
			return out
		}
	}
}

func (m *model) count(at int) exit {
	kids, label := m.kids(at), ""
	if len(kids) == 4 {
		label, kids = m.l[kids[0]].Text, kids[1:]
	}
	bounds := m.all(kids[:2])
	from, to := m.seen(bounds[0]), m.seen(bounds[1])
	m.refuseIf(from.Kind != api.Int || to.Kind != api.Int, api.ErrType, at)
	_, one := word.FromInt(from.Int)
	_, two := word.FromInt(to.Int)
	m.refuseIf(!one || !two, api.ErrRange, at)
	f := m.frame()
	vars := len(f.vars)
	for i := from.Int; ; i++ {
		m.tick(at)
		if i >= to.Int {
			return exit{}
		}
		w, _ := word.FromInt(i)
		f.vars = append(f.vars, &variable{m.l[at].Text, w})
		out := m.block(kids[2])
		f.vars = f.vars[:vars]
		if left, out := leaves(out, label); left {
			return out
		}
	}
}

func (m *model) truth(w uint64, at int) bool {
	b, ok := word.ToBool(w)
	m.refuseIf(!ok, api.ErrType, at)
	return b
}

// all works nodes out, one behind the other; those that are worked out are needed still.
func (m *model) all(list []int) []uint64 {
	f := m.frame()
	needs := len(f.needs)
	for _, at := range list {
		w := m.work(at)
		f.needs = append(f.needs, w)
	}
	words := slices.Clone(f.needs[needs:])
	f.needs = f.needs[:needs]
	return words
}

// work is the word of an expression.
func (m *model) work(at int) uint64 {
	node, kids := m.l[at], m.kids(at)
	var w uint64
	var e api.Errno
	switch node.Kind {
	case api.NodeName:
		return m.variable(node.Text).word
	case api.NodeOr, api.NodeAnd:
		first := m.work(kids[0])
		if m.truth(first, at) == (node.Kind == api.NodeOr) {
			return first
		}
		second := m.work(kids[1])
		m.truth(second, at)
		return second
	case api.NodeNot:
		w, e = ops.Unary(m.heap, "not", m.work(kids[0]), m.roots())
	case api.NodeUnary:
		w, e = ops.Unary(m.heap, node.Text, m.work(kids[0]), m.roots())
	case api.NodeBinary:
		both := m.all(kids)
		w, e = ops.Binary(m.heap, node.Text, both[0], both[1], m.roots())
	case api.NodeIndex:
		w, e = ops.Builtin(m.heap, "load", m.all(kids), m.roots())
	case api.NodeCall:
		args := m.all(kids)
		if function, own := m.function(node.Text); own {
			m.refuseIf(len(m.frames) >= api.MaxDepth, api.ErrDepth, at)
			return m.call(function, args)
		}
		w, e = ops.Builtin(m.heap, node.Text, args, m.roots())
	default:
		w, e = m.literal(node)
	}
	m.refuse(e, at)
	return w
}

func (m *model) literal(node api.Node) (uint64, api.Errno) {
	v := api.Value{}
	switch node.Kind {
	case api.NodeInt:
		v = api.Value{Kind: api.Int, Int: node.Int}
	case api.NodeFloat:
		v = api.Value{Kind: api.Float, Bits: node.Bits}
	case api.NodeText:
		v = api.Value{Kind: api.Text, Text: node.Text}
	case api.NodeTrue:
		return word.FromBool(true), api.OK
	case api.NodeFalse:
		return word.FromBool(false), api.OK
	}
	return unboxed.Box(m.heap, v, m.roots())
}
