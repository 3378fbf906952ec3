package vm_test

import (
	"math/rand"
	"slices"
	"strconv"
	"strings"

	"casket/api"
)

// drawer writes sources in which numbers meet. It knows what is in scope, so that all are right ones. A variable's first letter says what mostly is in it: n a whole number, d a double, m a number of either kind, s a string, t a truth, r a thing.
type drawer struct {
	*rand.Rand
	strings.Builder
	vars   []string // in scope, globals and hidden ones, too
	own    int      // those from here on are of the block that is written
	labels []string // of the loops around; empty where there is none
	made   int      // labels
	budget int      // of statements
}

// drawnFuncs are the functions of each drawn source.
var drawnFuncs = []struct {
	name   string
	params []string
}{{"f", []string{"n", "m"}}, {"h", []string{"r", "d"}}, {"k", []string{"m", "n", "t"}}, {"z", nil}}

func drawn(seed int64) string {
	d := &drawer{Rand: rand.New(rand.NewSource(seed))}
	d.WriteString("let m0; let r0;\n")
	for _, f := range drawnFuncs {
		d.WriteString("fn " + f.name + "(" + strings.Join(f.params, ", ") + ") ")
		d.vars, d.labels, d.budget = slices.Concat([]string{"m0", "r0"}, f.params), nil, 6+d.Intn(12)
		if f.name == "f" {
			d.WriteString("{ if m0 == nil { m0 = 1; r0 = row(2); } if true ")
			d.block()
			d.WriteString("return m0; }\n")
			continue
		}
		d.block()
		d.WriteString("\n")
	}
	return d.String()
}

func (d *drawer) pick(list ...string) string { return list[d.Intn(len(list))] }

func (d *drawer) block() {
	vars, own := len(d.vars), d.own
	d.own = vars
	d.WriteString("{ ")
	for range 1 + d.Intn(5) {
		if d.budget > 0 {
			d.budget--
			d.statement()
		}
	}
	d.WriteString("} ")
	d.vars, d.own = d.vars[:vars], own
}

func (d *drawer) statement() {
	switch d.Intn(16) {
	case 0, 1, 2:
		d.let()
	case 3, 4, 5, 6:
		name := d.pick(d.vars...)
		d.WriteString(name + " = " + d.of(name, 3) + "; ")
	case 7:
		d.WriteString("(" + d.of("r", 1) + ")[" + d.pick("0", "0", "1", d.of("n", 1)) + "] = " + d.of(d.pick("n", "m", "s", "r"), 2) + "; ")
	case 8, 9:
		d.choice()
	case 10:
		d.WriteString(d.label() + "while " + d.of("t", 2) + " ")
		d.loop("")
	case 11, 12:
		name := d.pick("n", "n1", "m", "s")
		d.WriteString(d.label() + "for " + name + " in " + d.pick("0", "1", "-2") + ".." + d.pick("2", "4", "6", d.of("n", 1)) + " ")
		d.loop(name)
	case 13:
		d.jump()
	case 14:
		d.WriteString("out " + d.of(d.pick("n", "d", "m", "s", "t"), 2) + "; ")
	default:
		d.WriteString(d.pick("", "", "return ") + d.of(d.pick("n", "d", "m", "s", "r"), 3) + "; ")
	}
}

func (d *drawer) let() {
	name := d.pick("n", "d", "m", "m", "s", "t", "r")
	value := d.of(name, 3)
	for slices.Contains(d.vars[d.own:], name) {
		name += strconv.Itoa(d.Intn(9))
	}
	d.WriteString("let " + name + " = " + value + "; ")
	d.vars = append(d.vars, name)
}

func (d *drawer) choice() {
	d.WriteString("if " + d.of("t", 2) + " ")
	d.block()
	if d.Intn(2) == 0 {
		d.WriteString("else ")
		if d.Intn(2) == 0 {
			d.choice()
		} else {
			d.block()
		}
	}
}

// label writes that of the loop that comes, which is around from there on.
func (d *drawer) label() string {
	label := ""
	if d.Intn(2) == 0 {
		d.made++
		label = "l" + strconv.Itoa(d.made)
	}
	d.labels = append(d.labels, label)
	if label == "" {
		return ""
	}
	return label + ": "
}

func (d *drawer) loop(variable string) {
	vars := len(d.vars)
	if variable != "" {
		d.vars = append(d.vars, variable)
	}
	d.block()
	d.vars = d.vars[:vars]
	d.labels = d.labels[:len(d.labels)-1]
}

func (d *drawer) jump() {
	if len(d.labels) == 0 {
		d.WriteString("z(); ")
		return
	}
	d.WriteString(d.pick("break ", "continue ") + d.pick(d.labels...) + "; ")
}

// of is an expression of what a variable of that name mostly has in it; once in a while of something else.
func (d *drawer) of(name string, depth int) string {
	letter := name[:1]
	if d.Intn(60) == 0 {
		letter = d.pick("n", "d", "m", "s", "t", "r")
	}
	if depth <= 0 || d.Intn(4) == 0 {
		return d.leaf(letter)
	}
	depth--
	switch letter {
	case "t":
		return d.truth(depth)
	case "s":
		return d.pick("("+d.of("s", depth)+" + "+d.of("s", depth)+")", "text("+d.of("m", depth)+")", d.leaf("s"))
	case "r":
		return d.pick(d.pick("row", "f64", "i16")+"("+d.pick("1", "2", "3")+")", "view(u8(8), \"i16\", 2, 2)", d.leaf("r"))
	}
	return d.number(letter, depth)
}

// leaf is a variable, or a literal.
func (d *drawer) leaf(letter string) string {
	list := strings.Fields(map[string]string{
		"n": "0 1 2 3 7 140737488355327 140737488355328 4611686018427387904",
		"d": "0x0p+0 0x1p+0 0x1.8p+1 0x1p-3 nan inf",
		"m": "1 0x1p+0 3 0x1.4p+2",
		"s": `"" "ab" "abcdef"`,
		"t": "true false",
		"r": "row(1)",
	}[letter])
	for _, name := range d.vars {
		if strings.HasPrefix(name, letter) || letter == "m" && strings.ContainsAny(name[:1], "nd") {
			list = append(list, name, name, name)
		}
	}
	return d.pick(list...)
}

func (d *drawer) number(letter string, depth int) string {
	switch d.Intn(12) {
	case 0:
		return "-" + d.of(letter, depth)
	case 1:
		return d.call(depth)
	case 2:
		return d.pick("len("+d.of("s", depth)+")", "int("+d.of("d", depth)+")", "float("+d.of("n", depth)+")", d.of("r", depth)+"[0]")
	case 3:
		return "(" + d.of("n", depth) + d.pick(" & ", " | ", " ^ ", " << ", " >> ") + d.of("n", depth) + ")"
	}
	return "(" + d.of(letter, depth) + d.pick(" + ", " - ", " * ", " / ", " // ", " % ", " + ", " - ") + d.of(letter, depth) + ")"
}

func (d *drawer) truth(depth int) string {
	letter := d.pick("n", "d", "m", "m", "s")
	switch d.Intn(8) {
	case 0, 1:
		return "(" + d.of("t", depth) + d.pick(" and ", " or ") + d.of("t", depth) + ")"
	case 2:
		return "(not " + d.of("t", depth) + ")"
	}
	return "(" + d.of(letter, depth) + d.pick(" < ", " <= ", " > ", " >= ", " == ", " != ") + d.of(letter, depth) + ")"
}

func (d *drawer) call(depth int) string {
	f := drawnFuncs[d.Intn(len(drawnFuncs))]
	var args []string
	for _, param := range f.params {
		args = append(args, d.of(param, depth-1))
	}
	return f.name + "(" + strings.Join(args, ", ") + ")"
}

// drawnArgs are arguments of f.
func drawnArgs(c *rand.Rand) []api.Raw {
	wholes := raws(whole(0), whole(1), whole(5), whole(-3), whole(1<<47-1), whole(1<<50))
	numbers := append(raws(double(one), double(half), double(0x8000000000000000), double(0xfff8000000000001)), wholes...)
	if c.Intn(12) == 0 {
		numbers = raws(null, truth(true), text("ab"), text("abcdefgh"))
	}
	return raws(wholes[c.Intn(len(wholes))], numbers[c.Intn(len(numbers))])
}
