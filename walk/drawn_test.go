package walk_test

import (
	"math/rand"
	"slices"
	"strconv"
	"strings"
	"testing"

	"casket/api"
	"casket/walk"
)

// Promises 15.4 and 15.7 to 15.11 by sources that are drawn, against the model: at each tick, and at the end.

// drawer writes sources. It knows what is in scope, so that all are right ones. A variable's first letter says what mostly is in it: n a whole number, s a string, t a truth, r a thing; in g and q is anything.
type drawer struct {
	*rand.Rand
	strings.Builder
	vars   []string // in scope, globals and hidden ones, too
	own    int      // those from here on are of the block that is written
	labels []string // of the loops around; empty where there is none
	made   int      // labels
	budget int      // of statements
}

// drawnFuncs are the functions of each drawn source.
var drawnFuncs = []struct {
	name   string
	params []string
}{{"f", []string{"n", "s"}}, {"h", []string{"r"}}, {"k", []string{"n", "r", "t"}}, {"z", nil}}

func drawn(seed int64) string {
	d := &drawer{Rand: rand.New(rand.NewSource(seed))}
	d.WriteString("let g; let q;\n")
	for _, f := range drawnFuncs {
		d.WriteString("fn " + f.name + "(" + strings.Join(f.params, ", ") + ") ")
		d.vars, d.labels, d.budget = slices.Concat([]string{"g", "q"}, f.params), nil, 9+d.Intn(12)
		d.block()
		d.WriteString("\n")
	}
	return d.String()
}

func (d *drawer) pick(list ...string) string { return list[d.Intn(len(list))] }

// variable is one of a letter, or, once in a while and where there is none, something else.
func (d *drawer) variable(letter string, others ...string) string {
	if d.Intn(30) == 0 {
		return d.pick(d.vars...)
	}
	list := slices.Clone(others)
	for _, name := range d.vars {
		if strings.HasPrefix(name, letter) {
			list = append(list, name, name)
		}
	}
	return d.pick(list...)
}

func (d *drawer) block() {
	vars, own := len(d.vars), d.own
	d.own = vars
	d.WriteString("{ ")
	for range 1 + d.Intn(5) {
		if d.budget > 0 {
			d.budget--
			d.statement()
		}
	}
	d.WriteString("} ")
	d.vars, d.own = d.vars[:vars], own
}

func (d *drawer) statement() {
	switch d.Intn(18) {
	case 0, 1, 2, 3:
		d.let()
	case 4, 5, 6:
		name := d.pick(d.vars...)
		d.WriteString(name + " = " + d.of(name, 3) + "; ")
	case 7:
		d.WriteString(d.thing(1) + "[" + d.pick("0", "0", d.whole(1)) + "] = " + d.any(2) + "; ")
	case 8, 9:
		d.choice()
	case 10:
		d.WriteString(d.label() + "while " + d.truth(2) + " ")
		d.loop("")
	case 11, 12, 13:
		name := d.pick("n", "nn", "s", "g")
		d.WriteString(d.label() + "for " + name + " in " + d.bound() + ".." + d.bound() + " ")
		d.loop(name)
	case 14:
		d.jump()
	case 15:
		d.WriteString("out " + d.pick(d.whole(2), d.text(2), d.truth(2), d.any(1)) + "; ")
	case 16:
		d.WriteString(d.any(3) + "; ")
	default:
		if d.Intn(3) == 0 {
			d.WriteString("return; ")
		} else {
			d.WriteString("return " + d.any(3) + "; ")
		}
	}
}

func (d *drawer) let() {
	name := d.pick("n", "s", "t", "r", "r", "g")
	value := d.of(name, 3)
	for slices.Contains(d.vars[d.own:], name) {
		name += strconv.Itoa(d.Intn(9))
	}
	d.WriteString("let " + name + " = " + value + "; ")
	d.vars = append(d.vars, name)
}

func (d *drawer) choice() {
	d.WriteString("if " + d.truth(2) + " ")
	d.block()
	if d.Intn(2) == 0 {
		d.WriteString("else ")
		if d.Intn(2) == 0 {
			d.choice()
		} else {
			d.block()
		}
	}
}

// label writes that of the loop that comes, which is around from there on.
func (d *drawer) label() string {
	label := ""
	if d.Intn(2) == 0 {
		d.made++
		label = "l" + strconv.Itoa(d.made)
	}
	d.labels = append(d.labels, label)
	if label == "" {
		return ""
	}
	return label + ": "
}

func (d *drawer) loop(variable string) {
	vars := len(d.vars)
	if variable != "" {
		d.vars = append(d.vars, variable)
	}
	d.block()
	d.vars = d.vars[:vars]
	d.labels = d.labels[:len(d.labels)-1]
}

func (d *drawer) jump() {
	if len(d.labels) == 0 {
		d.WriteString("nil; ")
		return
	}
	d.WriteString(d.pick("break ", "continue ") + d.pick(d.labels...) + "; ")
}

// bound is what a for goes from or to.
func (d *drawer) bound() string {
	if d.Intn(9) == 0 {
		return d.whole(2)
	}
	return d.pick("0", "0", "1", "2", "3", "4", "len("+d.text(0)+")", "140737488355327", "-140737488355328", "7 - 4")
}

// of is an expression of what a variable of that name has in it.
func (d *drawer) of(name string, depth int) string {
	switch name[0] {
	case 'n':
		return d.whole(depth)
	case 's':
		return d.text(depth)
	case 't':
		return d.truth(depth)
	case 'r':
		return d.thing(depth)
	}
	return d.any(depth)
}

// any is an expression of any kind.
func (d *drawer) any(depth int) string {
	if depth <= 0 {
		return d.pick(d.vars...)
	}
	switch d.Intn(10) {
	case 0, 1:
		return d.whole(depth)
	case 2, 3:
		return d.text(depth)
	case 4:
		return d.truth(depth)
	case 5, 6:
		return d.thing(depth)
	case 7, 8:
		return d.call(depth)
	}
	return d.pick(append(d.vars, "nil", "0x1.8p+1", "nan", "true")...)
}

func (d *drawer) whole(depth int) string {
	if depth <= 0 {
		return d.variable("n", "0", "1", "2", "3", "140737488355327", "140737488355328", "9223372036854775807")
	}
	switch d.Intn(9) {
	case 0, 1:
		return "(" + d.whole(depth-1) + d.pick(" + ", " - ", " * ", " // ", " % ", " & ", " << ", " / ") + d.whole(depth-1) + ")"
	case 2:
		return d.pick("-", "~") + d.whole(depth-1)
	case 3:
		return "len(" + d.pick(d.text(depth-1), d.thing(depth-1)) + ")"
	case 4:
		return "u8(2)[1]"
	}
	return d.whole(0)
}

func (d *drawer) text(depth int) string {
	if depth <= 0 {
		return d.variable("s", `""`, `"ab"`, `"abcdef"`, `"0123456789abcdef0"`)
	}
	switch d.Intn(5) {
	case 0, 1:
		return "(" + d.text(depth-1) + " + " + d.text(depth-1) + ")"
	case 2:
		return "text(" + d.whole(depth-1) + ")"
	case 3:
		return "sub(\"abcdefghi\" + " + d.text(depth-1) + ", 0, " + d.pick("1", "2", "6") + ")"
	}
	return d.text(0)
}

func (d *drawer) truth(depth int) string {
	if depth <= 0 {
		return d.variable("t", "true", "false")
	}
	switch d.Intn(6) {
	case 0:
		return "(" + d.truth(depth-1) + d.pick(" and ", " or ") + d.truth(depth-1) + ")"
	case 1:
		return "(not " + d.truth(depth-1) + ")"
	case 2:
		return "(" + d.whole(depth-1) + d.pick(" < ", " <= ", " > ", " >= ") + d.whole(depth-1) + ")"
	case 3, 4:
		return "(" + d.any(depth-1) + d.pick(" == ", " != ") + d.any(depth-1) + ")"
	}
	return d.truth(0)
}

func (d *drawer) thing(depth int) string {
	if depth <= 0 {
		return d.variable("r", "row(1)", "row(2)")
	}
	switch d.Intn(8) {
	case 0, 1, 2:
		return d.pick("row", "row", "row", "u8", "i16", "f32", "f64") + "(" + d.pick("1", "2", "3", "9") + ")"
	case 3:
		return "view(u8(8), \"" + d.pick("u8", "i16", "f32") + "\", 0, " + d.pick("0", "1", "2") + ")"
	case 4:
		return d.thing(depth-1) + "[" + d.pick("0", "1", "2") + "]"
	}
	return d.thing(0)
}

func (d *drawer) call(depth int) string {
	f := drawnFuncs[d.Intn(len(drawnFuncs))]
	var args []string
	for _, param := range f.params {
		args = append(args, d.of(param, depth-1))
	}
	return f.name + "(" + strings.Join(args, ", ") + ")"
}

// drawnArgs are arguments of f.
func drawnArgs(c *rand.Rand) []api.Raw {
	wholes := raws(whole(0), whole(1), whole(2), whole(-3), whole(1<<50))
	texts := raws(text(""), text("abc"), text("abcdefghij"))
	all := slices.Concat(wholes, texts, raws(null, truth(true), truth(false), double(0x3ff8000000000000), double(0x7ff0000000000001)))
	if c.Intn(9) == 0 {
		wholes, texts = all, all
	}
	return raws(wholes[c.Intn(len(wholes))], texts[c.Intn(len(texts))])
}

// reachOf is how many units cells for raw values need.
func reachOf(list []api.Raw) int {
	need := 0
	for _, r := range list {
		switch {
		case r.Kind == api.Int && (r.Int < -1<<47 || r.Int >= 1<<47):
			need += 2
		case r.Kind == api.Text && len(r.Text) > 5:
			need += 1 + (len(r.Text)+7)/8
		}
	}
	return need
}

// sameRun steps through a run, beside what the model has told of it.
func sameRun(t *testing.T, m *walk.Machine, told report, args []api.Raw, fuel int64) bool {
	t.Helper()
	start(t, m, "f", fuel, args...)
	for i, want := range told.states {
		ok := m.Step()
		got, has := m.State()
		if !ok || !has || !sameState(got, want) {
			t.Errorf("step %d: %v, %v, %v\nwant %v", i, ok, got, has, want)
			return false
		}
		if reach := m.Reach(); reach != told.reach[i] {
			t.Errorf("step %d, at %d: Reach is %d; want %d", i, want.At, reach, told.reach[i])
			return false
		}
	}
	if m.Step() {
		t.Error("a step too many")
		return false
	}
	end, ok := m.End()
	if !ok || !sameEnd(end, told.end) {
		t.Errorf("End: %v, %v\nwant %v", end, ok, told.end)
		return false
	}
	return true
}

// sameRest asks for what is left behind a run.
func sameRest(t *testing.T, m *walk.Machine, is *model) bool {
	t.Helper()
	if got, want := m.Reach(), is.heap.Reach(is.roots()); got != want {
		t.Errorf("Reach behind the run is %d; want %d", got, want)
		return false
	}
	for _, g := range is.globals {
		want := is.goOut(g.word)
		if got, e := m.Global(g.name); e != api.OK || got != want {
			t.Errorf("Global(%s) is %v, %d; want %v", g.name, got, e, want)
			return false
		}
	}
	return true
}

func TestDrawn(t *testing.T) {
	met := map[api.Errno]int{}
	steps := 0
	for seed := range int64(3000) {
		src := drawn(seed)
		c := rand.New(rand.NewSource(seed))
		args := drawnArgs(c)
		units := reachOf(args) + c.Intn(40)
		if seed%3 == 0 {
			units = plenty
		}
		m, is := load(t, src, units), newModel(t, src, units)
		at := load(t, src, units)
		for range 3 { // what a run leaves is there in the next one
			fuel := int64(c.Intn(200))
			if reachOf(args)+is.heap.Reach(is.roots()) > units {
				break
			}
			told := is.run("f", args, fuel)
			met[told.end.Code]++
			steps += len(told.states)
			end, e := at.Run("f", args, fuel)
			if !sameEnd(end, told.end) || e != api.OK {
				t.Errorf("Run: %v, %d; want %v", end, e, told.end)
			}
			if !sameRun(t, m, told, args, fuel) || !sameRest(t, m, is) || !sameRest(t, at, is) {
				t.Fatalf("seed %d, %d units, fuel %d, %v:\n%s", seed, units, fuel, args, src)
			}
			args = drawnArgs(c)
		}
	}
	t.Log(steps, "steps;", met)
	for _, code := range []api.Errno{api.OK, api.ErrType, api.ErrMemory, api.ErrFuel, api.ErrDepth, api.ErrIndex, api.ErrRange, api.ErrOverflow} {
		if met[code] == 0 {
			t.Errorf("no run has ended with %d", code)
		}
	}
}
