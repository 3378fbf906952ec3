package watch_test

import (
	"math/rand"
	"slices"
	"strconv"
	"strings"

	"casket/api"
)

// drawer writes sources whose functions call one another, and whose runs go on for a while: most of what is worked out is not refused. It knows what is in scope, so that all are right ones. A variable's first letter says what mostly is in it: n a whole number, d a double, s a string, r a row.
type drawer struct {
	*rand.Rand
	strings.Builder
	vars   []string // in scope, globals and hidden ones, too
	own    int      // those from here on are of the block that is written
	labels []string // of the loops around; empty where there is none
	made   int      // labels
	budget int      // of statements
	now    int      // which function is written
}

// drawnFuncs are the functions of each drawn source; z stands ahead of those that call it.
var drawnFuncs = []struct {
	name   string
	params []string
}{{"z", nil}, {"k", []string{"n"}}, {"h", []string{"r", "s"}}, {"f", []string{"n", "d"}}}

func drawn(seed int64) string {
	d := &drawer{Rand: rand.New(rand.NewSource(seed))}
	d.WriteString("let n0; let r0;\n")
	for i, f := range drawnFuncs {
		d.vars, d.labels, d.budget, d.now = slices.Concat([]string{"n0", "r0"}, f.params), nil, 4+d.Intn(12), i
		d.WriteString("fn " + f.name + "(" + strings.Join(f.params, ", ") + ") { if n0 == nil { n0 = 1; r0 = row(2); r0[0] = 3; r0[1] = 4; } if true ")
		d.block()
		if d.Intn(4) > 0 {
			d.WriteString("return " + d.of("n", 2) + "; }\n")
		} else {
			d.WriteString("return n0; }\n")
		}
	}
	return d.String()
}

func (d *drawer) pick(list ...string) string { return list[d.Intn(len(list))] }

func (d *drawer) block() {
	vars, own := len(d.vars), d.own
	d.own = vars
	d.WriteString("{ ")
	for range 1 + d.Intn(5) {
		if d.budget > 0 {
			d.budget--
			d.statement()
		}
	}
	d.WriteString("} ")
	d.vars, d.own = d.vars[:vars], own
}

func (d *drawer) statement() {
	switch d.Intn(16) {
	case 0, 1:
		d.let()
	case 2, 3, 4:
		name := d.pick(d.vars...)
		d.WriteString(name + " = " + d.of(name, 2) + "; ")
	case 5:
		d.WriteString(d.of("r", 1) + "[" + d.pick("0", "1", "n0 % 2", "2") + "] = " + d.of("n", 2) + "; ")
	case 6, 7:
		d.choice()
	case 8:
		d.WriteString(d.label() + "while " + d.truth(1) + " { n0 = n0 + 1; if n0 % 7 == 0 { break; } if true ")
		d.loop("")
		d.WriteString("} ")
	case 9, 10:
		name := d.pick("n", "n1", "s")
		d.WriteString(d.label() + "for " + name + " in " + d.pick("0", "1", "-2") + ".." + d.pick("2", "3", "4", d.of("n", 1)) + " ")
		d.loop(name)
	case 11:
		d.jump()
	case 12:
		d.WriteString("out " + d.of(d.pick("n", "d", "s"), 2) + "; ")
	case 13:
		if d.Intn(3) == 0 {
			d.WriteString("return " + d.of(d.pick("n", "r"), 2) + "; ")
		}
	default:
		d.WriteString(d.pick("", "out ") + d.call(2) + "; ")
	}
}

func (d *drawer) let() {
	name := d.pick("n", "n", "d", "s", "r")
	value := d.of(name, 2)
	for slices.Contains(d.vars[d.own:], name) {
		name += strconv.Itoa(d.Intn(9))
	}
	d.WriteString("let " + name + " = " + value + "; ")
	d.vars = append(d.vars, name)
}

func (d *drawer) choice() {
	d.WriteString("if " + d.truth(2) + " ")
	d.block()
	if d.Intn(2) == 0 {
		d.WriteString("else ")
		if d.Intn(2) == 0 {
			d.choice()
		} else {
			d.block()
		}
	}
}

// label writes that of the loop that comes, which is around from there on.
func (d *drawer) label() string {
	label := ""
	if d.Intn(2) == 0 {
		d.made++
		label = "l" + strconv.Itoa(d.made)
	}
	d.labels = append(d.labels, label)
	if label == "" {
		return ""
	}
	return label + ": "
}

func (d *drawer) loop(variable string) {
	vars := len(d.vars)
	if variable != "" {
		d.vars = append(d.vars, variable)
	}
	d.block()
	d.vars = d.vars[:vars]
	d.labels = d.labels[:len(d.labels)-1]
}

func (d *drawer) jump() {
	if len(d.labels) == 0 {
		d.WriteString("out 7; ")
		return
	}
	d.WriteString("if " + d.truth(1) + " { " + d.pick("break ", "continue ") + d.pick(d.labels...) + "; } ")
}

// of is an expression of what a variable of that name mostly has in it; once in a while of something else.
func (d *drawer) of(name string, depth int) string {
	letter := name[:1]
	if d.Intn(200) == 0 {
		letter = d.pick("n", "d", "s", "r")
	}
	if depth <= 0 || d.Intn(3) == 0 {
		return d.leaf(letter)
	}
	depth--
	switch letter {
	case "d":
		return "(" + d.of("d", depth) + d.pick(" + ", " * ", " - ", " / ") + d.of("d", depth) + ")"
	case "s":
		return d.pick("sub("+d.of("s", depth)+" + "+d.of("s", depth)+" + \"abcdefgh\", 0, "+strconv.Itoa(d.Intn(9))+")", "text("+d.of("n", depth)+")")
	case "r":
		return d.pick("row(2)", "row(3)", d.leaf("r"))
	}
	switch d.Intn(6) {
	case 0, 1:
		return d.call(depth)
	case 2:
		return d.pick("len("+d.of("s", depth)+")", "len("+d.of("r", depth)+")", "int("+d.of("d", 0)+")", "(9 // "+d.of("n", depth)+")")
	}
	return "((" + d.of("n", depth) + d.pick(" + ", " - ", " * ") + d.of("n", depth) + ") % " + d.pick("5", "17", "1000000007") + ")"
}

// leaf is a variable, or a literal.
func (d *drawer) leaf(letter string) string {
	list := strings.Fields(map[string]string{"n": "0 1 2 3 7 140737488355328", "d": "0x0p+0 0x1p+0 0x1.8p+1", "s": `"" "ab" "abcdef"`, "r": "row(1)"}[letter])
	for _, name := range d.vars {
		if strings.HasPrefix(name, letter) && name != "s" {
			list = append(list, name, name, name)
		}
	}
	return d.pick(list...)
}

func (d *drawer) truth(depth int) string {
	letter := d.pick("n", "n", "d")
	switch d.Intn(8) {
	case 0:
		return "(" + d.truth(depth-1) + d.pick(" and ", " or ") + "not " + d.truth(depth-1) + ")"
	case 1:
		return d.pick("true", "false")
	}
	return "(" + d.of(letter, depth) + d.pick(" < ", " <= ", " > ", " >= ", " == ", " != ") + d.of(letter, depth) + ")"
}

// call is mostly one of a function that stands ahead: so most runs do not end by going too deep.
func (d *drawer) call(depth int) string {
	list := drawnFuncs[:d.now]
	if d.Intn(30) == 0 {
		list = drawnFuncs
	}
	if len(list) == 0 {
		return d.leaf("n")
	}
	f := list[d.Intn(len(list))]
	var args []string
	for _, param := range f.params {
		args = append(args, d.of(param, depth-1))
	}
	return f.name + "(" + strings.Join(args, ", ") + ")"
}

// drawnArgs are arguments of f.
func drawnArgs(d *rand.Rand) []api.Raw {
	wholes := raws(whole(0), whole(1), whole(5), whole(-3), whole(1<<47-1), whole(1<<50))
	doubles := raws(double(one), double(half), double(0x8000000000000000), double(0xfff8000000000001))
	if d.Intn(12) == 0 {
		doubles = raws(null, yes, text("ab"), text("abcdefgh"))
	}
	return raws(wholes[d.Intn(len(wholes))], doubles[d.Intn(len(doubles))])
}
