package console_test

import (
	"fmt"
	"math/rand"
	"slices"
	"strconv"
	"strings"

	"casket/api"
	"casket/lex"
	"casket/numtext"
	"casket/tree"
	"casket/vm"
	"casket/walk"
)

// teller draws a script, and knows what it must tell: it asks machines of its own, by the calls of their chapters.
type teller struct {
	*rand.Rand
	lines   []string
	want    strings.Builder
	kinds   []string // of machines that it may make
	source  string
	written []int // the functions that were put into it
	machine asked
	known   []int // those that it mostly has
	regs    *vm.Machine
	held    map[int]int // the Kinds of the things that are held
	given   int         // numbers of things
	codes   map[api.Errno]int
}

// asked is a machine of either kind.
type asked interface {
	Start(name string, args []api.Raw, fuel int64) api.Errno
	Step() bool
	State() (api.State, bool)
	End() (api.End, bool)
	Run(name string, args []api.Raw, fuel int64) (api.End, api.Errno)
	Global(name string) (api.Raw, api.Errno)
	SetGlobal(name string, r api.Raw) api.Errno
	Peek(ref int, i int64) (api.Raw, api.Errno)
	Poke(ref int, i int64, r api.Raw) api.Errno
	Release(ref int) api.Errno
	Reach() int
}

// functions of drawn sources, with the numbers of their parameters.
var functions = []struct {
	name, text string
	params     int
}{
	{"add", "fn add(a, b) { return a + b; }", 2},
	{"loop", "fn loop(n) { let s = 0; for i in 0..n { s = s + i; out s; } return s; }", 1},
	{"keep", "fn keep(x) { let old = g; g = x; return old; }", 1},
	{"make", "fn make(n) { let r = row(n); for i in 0..n { r[i] = u8(i); } h = r; return r; }", 1},
	{"deep", "fn deep(n) { if n < 1 { return g; } let m = deep(n - 1); return m; }", 1},
	{"mix", `fn mix(a, b) { out a; if a == b { return "same\n"; } return a < b; }`, 2},
	{"cat", `fn cat(s, n) { let t = ""; while len(t) < n { t = t + s; out t; } return t; }`, 2},
	{"size", "fn size(x) { return kind(x) + text(len(x)); }", 1},
	{"put", "fn put(r, i, x) { r[i] = x; return r[i]; }", 3},
	{"spin", "fn spin() { while true { h = h; } }", 0},
	{"void", "fn void() { }", 0},
	{"part", `fn part(n) { return view(u8(n), "i16", 0, n // 2); }`, 1},
	{"sum", "fn sum(a, b) { return a / b * (a // b) % 7 - a; }", 2},
	{"f32s", "fn f32s(n) { let a = f32(n); let b = f64(n); out len(b); return a; }", 1},
}

func (d *teller) pick(list ...string) string { return list[d.Intn(len(list))] }

// tell is one more line, and what it tells; of nothing no line.
func (d *teller) tell(line, answer string) {
	d.lines = append(d.lines, line)
	if answer != "" {
		d.want.WriteString(answer + "\n")
	}
}

// refuse is one more line that is refused.
func (d *teller) refuse(line string, code api.Errno) {
	d.codes[code]++
	d.tell(line, fmt.Sprintf("line %d: error %d", len(d.lines)+1, int(code)))
}

// faulty is one more line that tells of a fault.
func (d *teller) faulty(line string, f api.Fault) {
	d.codes[f.Code]++
	d.tell(line, fmt.Sprintf("line %d: error %d at %d", len(d.lines)+1, int(f.Code), f.At))
}

// ok is one that tells just that, or is refused.
func (d *teller) ok(line string, e api.Errno) {
	if e != api.OK {
		d.refuse(line, e)
		return
	}
	d.tell(line, "ok")
}

// out is a value as it is told, which is held from here on if it is a thing.
func (d *teller) out(r api.Raw) string {
	if r.Kind < api.F64 {
		return bare(r)
	}
	if r.Ref >= d.given {
		d.given = r.Ref + 1
		d.held[r.Ref] = r.Kind
	}
	return fmt.Sprintf("@%d:%s", r.Ref, bare(r))
}

// bare is a value as a state tells it.
func bare(r api.Raw) string {
	switch r.Kind {
	case api.Nil:
		return "nil"
	case api.Bool:
		return map[int64]string{0: "false", 1: "true"}[r.Int]
	case api.Int:
		return strconv.FormatInt(r.Int, 10)
	case api.Float:
		return numtext.Float(r.Bits)
	case api.Text:
		return spelt(r.Text)
	}
	return fmt.Sprintf("%s:%d", map[int]string{api.F64: "f64", api.F32: "f32", api.I16: "i16", api.U8: "u8", api.Row: "row"}[r.Kind], r.Len)
}

func (d *teller) ended(end api.End) string {
	d.codes[end.Code]++
	var told strings.Builder
	for _, line := range end.Out {
		told.WriteString("> " + spelt(line) + "\n")
	}
	if end.Code != api.OK {
		fmt.Fprintf(&told, "error %d at %d ticks %d", int(end.Code), end.At, end.Ticks)
	} else {
		fmt.Fprintf(&told, "value %s ticks %d", d.out(end.Value), end.Ticks)
	}
	return told.String()
}

// values are n of them, as words and as they go in; false: a thing among them is not held.
func (d *teller) values(n int) (words string, list []api.Raw, held bool) {
	held = true
	for range n {
		word, r := d.value()
		if r.Kind >= api.F64 {
			kind, has := d.held[r.Ref]
			r.Kind = kind
			held = held && has
		}
		words += d.pick(" ", " ", "   ") + word
		list = append(list, r)
	}
	return words, list, held
}

func (d *teller) value() (string, api.Raw) {
	switch d.Intn(8) {
	case 0:
		return "nil", api.Raw{}
	case 1:
		i := int64(d.Intn(2))
		return bare(api.Raw{Kind: api.Bool, Int: i}), api.Raw{Kind: api.Bool, Int: i}
	case 2:
		bits := []uint64{0, 1 << 63, 0x3ff0000000000000, 0xc008000000000000, 0x7ff0000000000000, api.Canon, 1}[d.Intn(7)]
		return numtext.Float(bits), api.Raw{Kind: api.Float, Bits: bits}
	case 3:
		s := d.pick("", "a", "ab c", "\n", "\"\\", "\x00\xff", "  ", "a longer text")
		return spelt(s), api.Raw{Kind: api.Text, Text: s}
	case 4, 5:
		ref := d.Intn(d.given + 1)
		if d.given > 0 || d.Intn(9) == 0 {
			return fmt.Sprintf("@%d", ref), api.Raw{Kind: api.Row, Ref: ref}
		}
	}
	i := []int64{0, 1, 2, 3, 5, 8, -1, 1 << 47, 1<<63 - 1, -1 << 63}[d.Intn(10)]
	return strconv.FormatInt(i, 10), api.Raw{Kind: api.Int, Int: i}
}

// line draws one.
func (d *teller) line() {
	switch d.Intn(24) {
	case 0:
		d.nothing()
	case 1:
		d.tell(d.pick("clear", " clear "), "ok")
		d.source = ""
	case 2, 3:
		d.addSource()
	case 4:
		d.look()
	case 5:
		d.open()
	case 6:
		d.wrong()
	default:
		d.ask()
	}
}

func (d *teller) nothing() { d.tell(d.pick("", " ", "# run f 9", "   #", "#|"), "") }

func (d *teller) wrong() {
	d.refuse(d.pick("frob", "run", "run add x", "run add 9 x", `run add 9 "a`, `set g "a"b`, `set g a"b"`, "step -1", "step 007", "step", "reach 1", "peek 0", "peek 0 -1", "set g @", "set g @-1", "set g @01", "poke 0 0 0x1", "release @0", "vm", "vm -5", "tree x", "tree 9 9", "global", "tokens 1", "print x", " |x", "clear 1", "sites 0", "force 0", "step 9223372036854775808", "set g @9223372036854775808"), api.ErrLine)
}

// addSource draws a whole source most of the time; else a line that may spoil it.
func (d *teller) addSource() {
	if d.Intn(6) == 0 {
		line := d.pick("", "$", "let g;", "# a remark", "fn", "\"", "fn q() { return x; }", "fn z(a) {", "}")
		d.source += line + "\n"
		d.tell("|"+line, "")
		return
	}
	d.tell("clear", "ok")
	d.source = "let g; let h;\n"
	d.tell("|let g; let h;", "")
	d.written = d.Perm(len(functions))[:3+d.Intn(len(functions)-2)]
	for _, i := range d.written {
		d.source += functions[i].text + "\n"
		d.tell("|"+functions[i].text, "")
	}
	if d.Intn(2) == 0 {
		d.open()
	}
}

func (d *teller) look() {
	list, f := lex.All(d.source)
	if f.Code != api.OK {
		d.faulty("tokens", f)
	} else {
		d.tell("tokens", fmt.Sprintf("tokens %d", len(list)))
	}
	l, f := tree.Parse(d.source)
	if f.Code != api.OK {
		d.faulty("print", f)
		return
	}
	text, _ := tree.Print(l)
	d.tell("print", strings.TrimRight("print "+text, " \n"))
}

func (d *teller) open() {
	units := []int{0, 3, 20, 300, 300, 300, api.MaxUnits, api.MaxUnits + 1}[d.Intn(8)]
	kind := d.pick(d.kinds...)
	line := fmt.Sprintf("%s %d", kind, units)
	var m asked
	var regs *vm.Machine
	var f api.Fault
	if kind == "tree" {
		m, f = walk.New(d.source, units)
	} else {
		regs, f = vm.New(d.source, units)
		m = regs
	}
	if f.Code != api.OK {
		d.faulty(line, f)
		return
	}
	d.machine, d.regs, d.known = m, regs, d.written
	d.held, d.given = map[int]int{}, 0
	d.tell(line, "ok")
}

// ask draws a line for the machine.
func (d *teller) ask() {
	name := d.pick("g", "g", "h", "h", "add", "none")
	ref, i := d.Intn(d.given+2), d.Intn(5)
	f := functions[d.Intn(len(functions))]
	if d.Intn(8) > 0 && len(d.known) > 0 {
		f = functions[d.known[d.Intn(len(d.known))]]
	}
	n := f.params
	if d.Intn(12) == 0 {
		n = d.Intn(4)
	}
	fuel := []int64{0, 1, 3, 9, 40, 200, 200, api.MaxFuel + 1}[d.Intn(8)]
	if f.name != "spin" && d.Intn(20) == 0 {
		fuel = api.MaxFuel // the others end without that
	}
	if d.machine == nil {
		d.refuse(d.pick("reach", "global g", "set g @0", "run none 9 @7", "step 1", "peek 0 0", "poke 0 0 @0", "release 0", "start add 9", "sites", "force 0 0"), api.ErrState)
		return
	}
	switch d.Intn(12) {
	case 0, 1, 2:
		d.run(f.name, n, fuel)
	case 3:
		d.start(f.name, n, fuel)
	case 4, 5, 6:
		d.step([]int64{0, 1, 1, 2, 5, 30, 1<<63 - 1}[d.Intn(7)])
	case 7:
		d.asks("global "+name, func() (api.Raw, api.Errno) { return d.machine.Global(name) })
	case 8:
		d.changes("set "+name, func(r api.Raw) api.Errno { return d.machine.SetGlobal(name, r) })
	case 9:
		d.asks(fmt.Sprintf("peek %d %d", ref, i), func() (api.Raw, api.Errno) { return d.machine.Peek(ref, int64(i)) })
	case 10:
		d.changes(fmt.Sprintf("poke %d  %d", ref, i), func(r api.Raw) api.Errno { return d.machine.Poke(ref, int64(i), r) })
	default:
		d.rest(ref)
	}
}

func (d *teller) run(name string, params int, fuel int64) {
	words, args, held := d.values(params)
	line := fmt.Sprintf("run %s %d%s", name, fuel, words)
	if !held {
		d.refuse(line, api.ErrRef)
		return
	}
	end, e := d.machine.Run(name, args, fuel)
	if e != api.OK {
		d.refuse(line, e)
		return
	}
	d.tell(line, d.ended(end))
}

func (d *teller) start(name string, params int, fuel int64) {
	words, args, held := d.values(params)
	line := fmt.Sprintf("start %s %d%s", name, fuel, words)
	if !held {
		d.refuse(line, api.ErrRef)
		return
	}
	d.ok(line, d.machine.Start(name, args, fuel))
}

func (d *teller) step(n int64) {
	for made := int64(0); made < n && d.machine.Step(); made++ {
	}
	line := fmt.Sprintf("step %d", n)
	if end, has := d.machine.End(); has {
		d.tell(line, d.ended(end))
		return
	}
	s, has := d.machine.State()
	if !has {
		d.tell(line, "state")
		return
	}
	told := fmt.Sprintf("state %d %d %d %d", s.Ticks, s.Depth, s.At, s.Out)
	for _, r := range s.Vars {
		told += " " + bare(r)
	}
	d.tell(line, told)
}

func (d *teller) asks(line string, what func() (api.Raw, api.Errno)) {
	r, e := what()
	if e != api.OK {
		d.refuse(line, e)
		return
	}
	d.tell(line, "value "+d.out(r))
}

func (d *teller) changes(line string, what func(r api.Raw) api.Errno) {
	words, list, held := d.values(1)
	if !held {
		d.refuse(line+words, api.ErrRef)
		return
	}
	d.ok(line+words, what(list[0]))
}

// rest is the lines that are asked more rarely.
func (d *teller) rest(ref int) {
	switch d.Intn(4) {
	case 0:
		e := d.machine.Release(ref)
		if e == api.OK {
			delete(d.held, ref)
		}
		d.ok(fmt.Sprintf("release %d", ref), e)
	case 1:
		if slices.Contains(d.kinds, "vm") {
			d.sites()
		}
	case 2:
		if slices.Contains(d.kinds, "vm") {
			d.force(d.Intn(9), d.Intn(4))
		}
	default:
		d.tell("reach", fmt.Sprintf("reach %d", d.machine.Reach()))
	}
}

func (d *teller) sites() {
	if d.regs == nil {
		d.refuse("sites", api.ErrState)
		return
	}
	told := ""
	for _, s := range d.regs.Sites() {
		told += fmt.Sprintf("site %d %d %d %d %d\n", s.At, s.Form, s.Generic, s.Fast, s.Fails)
	}
	if told == "" {
		told = "sites 0"
	}
	d.tell("sites", strings.TrimSuffix(told, "\n"))
}

func (d *teller) force(i, form int) {
	line := fmt.Sprintf("force %d %d", i, form)
	if d.regs == nil {
		d.refuse(line, api.ErrState)
		return
	}
	d.ok(line, d.regs.Force(i, form))
}
