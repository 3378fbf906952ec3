package fold_test

import (
	"math/rand"
	"slices"
	"strconv"
	"strings"
)

// drawer writes sources in which much is known ahead. It knows what is in scope, so that most are right ones. A variable's first letter says what mostly is in it: n a whole number, d a double, s a string, t a truth, r a thing.
type drawer struct {
	*rand.Rand
	strings.Builder
	vars   []string // in scope, globals and hidden ones, too
	own    int      // those from here on are of the block that is written
	labels []string // of the loops around; empty where there is none
	made   int      // labels
	budget int      // of statements
}

// drawnFuncs are the functions of each drawn source.
var drawnFuncs = []struct {
	name   string
	params []string
}{{"f", []string{"n", "s"}}, {"h", []string{"r", "d"}}, {"k", []string{"n", "t"}}, {"z", nil}}

func drawn(seed int64) string {
	d := &drawer{Rand: rand.New(rand.NewSource(seed))}
	d.WriteString("let n0; let s0; let r0;\n")
	for _, f := range drawnFuncs {
		d.WriteString("fn " + f.name + "(" + strings.Join(f.params, ", ") + ") ")
		d.vars, d.labels, d.budget = slices.Concat([]string{"n0", "s0", "r0"}, f.params), nil, 6+d.Intn(10)
		d.block()
		d.WriteString("\n")
	}
	return d.String()
}

func (d *drawer) pick(list ...string) string { return list[d.Intn(len(list))] }

func (d *drawer) block() {
	vars, own := len(d.vars), d.own
	d.own = vars
	d.WriteString("{ ")
	for range 1 + d.Intn(5) {
		if d.budget > 0 {
			d.budget--
			d.statement()
		}
	}
	d.WriteString("} ")
	d.vars, d.own = d.vars[:vars], own
}

func (d *drawer) statement() {
	switch d.Intn(17) {
	case 0, 1, 2:
		d.let()
	case 3, 4, 5:
		name := d.pick(d.vars...)
		d.WriteString(name + " = " + d.of(name, 3) + "; ")
	case 6:
		d.WriteString("(" + d.of("r", 1) + ")[" + d.pick("0", "1 - 1", d.of("n", 1)) + "] = " + d.any(2) + "; ")
	case 7, 8:
		d.choice()
	case 9:
		d.WriteString(d.label() + "while " + d.of("t", 3) + " ")
		d.loop("")
	case 10, 11:
		name := d.pick("n", "n1", "s")
		d.WriteString(d.label() + "for " + name + " in " + d.pick("0", "2 - 1", d.of("n", 1)) + ".." + d.pick("2", "1 + 2", "len(\"abcd\")", d.of("n", 2)) + " ")
		d.loop(name)
	case 12:
		d.jump()
	case 13, 14:
		d.WriteString("out " + d.of(d.pick("n", "d", "s", "t"), 3) + "; ")
	case 15:
		d.WriteString(d.any(3) + "; ")
	default:
		d.WriteString("return" + d.pick("", " "+d.any(3)) + "; ")
	}
}

func (d *drawer) let() {
	name := d.pick("n", "d", "s", "t", "r")
	value := d.of(name, 3)
	for slices.Contains(d.vars[d.own:], name) {
		name += strconv.Itoa(d.Intn(9))
	}
	d.WriteString("let " + name + " = " + value + "; ")
	d.vars = append(d.vars, name)
}

func (d *drawer) choice() {
	d.WriteString("if " + d.of("t", 3) + " ")
	d.block()
	if d.Intn(2) == 0 {
		d.WriteString("else ")
		if d.Intn(2) == 0 {
			d.choice()
		} else {
			d.block()
		}
	}
}

// label writes that of the loop that comes, which is around from there on.
func (d *drawer) label() string {
	label := ""
	if d.Intn(2) == 0 {
		d.made++
		label = "l" + strconv.Itoa(d.made)
	}
	d.labels = append(d.labels, label)
	if label == "" {
		return ""
	}
	return label + ": "
}

func (d *drawer) loop(variable string) {
	vars := len(d.vars)
	if variable != "" {
		d.vars = append(d.vars, variable)
	}
	d.block()
	d.vars = d.vars[:vars]
	d.labels = d.labels[:len(d.labels)-1]
}

func (d *drawer) jump() {
	if len(d.labels) == 0 {
		d.WriteString("z(); ")
		return
	}
	d.WriteString(d.pick("break ", "continue ") + d.pick(d.labels...) + "; ")
}

// any is an expression of any kind.
func (d *drawer) any(depth int) string {
	return d.of(d.pick("n", "n", "d", "s", "s", "t", "r", "x"), depth)
}

// of is an expression of what a variable of that name mostly has in it; once in a while of something else.
func (d *drawer) of(name string, depth int) string {
	letter := name[:1]
	if d.Intn(50) == 0 {
		letter = d.pick("n", "d", "s", "t", "r", "x")
	}
	if depth <= 0 || d.Intn(5) == 0 {
		return d.leaf(letter)
	}
	depth--
	switch letter {
	case "n":
		return d.whole(depth)
	case "d":
		return d.double(depth)
	case "s":
		return d.text(depth)
	case "t":
		return d.truth(depth)
	case "r":
		return d.pick(d.pick("row", "f64", "u8")+"("+d.pick("1", "2", "1 + 2")+")", "view(u8(2 * 4), \"i16\", 2, 2)", d.leaf("r"))
	}
	return d.call(depth)
}

// leaf is a literal, or, not so often, a variable.
func (d *drawer) leaf(letter string) string {
	list := strings.Fields(map[string]string{
		"n": "0 0 1 1 2 3 7 65 140737488355327 140737488355328 4611686018427387904 9223372036854775807",
		"d": "0x0p+0 0x1p+0 0x1.8p+1 0x1p-3 nan inf",
		"s": `"" "ab" "5" "abcdef" "0x1p+0"`,
		"t": "true true false false",
		"r": "row(1) row(2)",
		"x": `nil 1 "a" true nan`,
	}[letter])
	for _, name := range d.vars {
		if strings.HasPrefix(name, letter) {
			list = append(list, name)
		}
	}
	return d.pick(list...)
}

func (d *drawer) whole(depth int) string {
	switch d.Intn(14) {
	case 0:
		return d.pick("-", "~") + d.of("n", depth)
	case 1:
		return "len(" + d.of(d.pick("s", "s", "r"), depth) + ")"
	case 2:
		return "int(" + d.of(d.pick("d", "n"), depth) + ")"
	case 3:
		return d.pick("bits("+d.of("d", depth)+")", "num("+d.of("s", depth)+")")
	case 4:
		return "byte(" + d.of("s", depth) + ", " + d.pick("0", "1", d.of("n", depth)) + ")"
	case 5:
		return d.call(depth)
	case 6, 7:
		return "(" + d.of("n", depth) + d.pick(" & ", " | ", " ^ ", " << ", " >> ") + d.of("n", depth) + ")"
	}
	return "(" + d.of("n", depth) + d.pick(" + ", " - ", " * ", " // ", " % ") + d.of("n", depth) + ")"
}

func (d *drawer) double(depth int) string {
	switch d.Intn(6) {
	case 0:
		return "-" + d.of("d", depth)
	case 1:
		return "float(" + d.of(d.pick("n", "d"), depth) + ")"
	case 2:
		return d.pick("frombits("+d.of("n", depth)+")", "num(text("+d.of("d", depth)+"))")
	case 3:
		return "(" + d.of("n", depth) + " / " + d.of("n", depth) + ")"
	}
	return "(" + d.of("d", depth) + d.pick(" + ", " - ", " * ", " / ", " // ", " % ") + d.of(d.pick("d", "d", "n"), depth) + ")"
}

func (d *drawer) text(depth int) string {
	switch d.Intn(8) {
	case 0:
		return "text(" + d.of(d.pick("n", "d", "s", "t", "x"), depth) + ")"
	case 1:
		return "chr(" + d.pick("65", d.of("n", depth)) + ")"
	case 2:
		return "kind(" + d.any(depth) + ")"
	case 3:
		return "sub(\"abcdefghi\" + " + d.of("s", depth) + ", " + d.pick("0", "2 - 1", d.of("n", depth)) + ", " + d.pick("1", "6", "3 * 3") + ")"
	}
	return "(" + d.of("s", depth) + " + " + d.of("s", depth) + ")"
}

func (d *drawer) truth(depth int) string {
	letter := d.pick("n", "n", "d", "s")
	switch d.Intn(8) {
	case 0, 1, 2:
		return "(" + d.of("t", depth) + d.pick(" and ", " or ") + d.of("t", depth) + ")"
	case 3:
		return "(not " + d.of("t", depth) + ")"
	case 4:
		return "(" + d.any(depth) + d.pick(" == ", " != ") + d.any(depth) + ")"
	}
	return "(" + d.of(letter, depth) + d.pick(" < ", " <= ", " > ", " >= ") + d.of(letter, depth) + ")"
}

func (d *drawer) call(depth int) string {
	f := drawnFuncs[d.Intn(len(drawnFuncs))]
	var args []string
	for _, param := range f.params {
		args = append(args, d.of(param, depth-1))
	}
	return f.name + "(" + strings.Join(args, ", ") + ")"
}
