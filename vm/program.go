package vm

import (
	"slices"

	"casket/api"
	"casket/check"
	"casket/desk"
	"casket/heap"
	"casket/site"
	"casket/value"
)

// program is a source as code.
type program struct {
	funcs    []function
	numbers  map[string]int // of the functions
	globals  map[string]int // their numbers
	builtins []builtin
	places   []int        // of the sites in the source, rising
	sites    []*site.Site // at these places
	homes    []*instr     // the instruction of each site
	fast     [3 * operatorCount]fast
	bare     *heap.Heap // of no units: what can be boxed there needs no cell
}

func newProgram(l []api.Node, names desk.Names) program {
	p := program{numbers: map[string]int{}, globals: names.Globals, places: check.Sites(l), fast: specialised()}
	p.bare, _ = heap.New(0)
	for _, at := range p.places {
		p.sites = append(p.sites, site.New(at))
	}
	for _, node := range l {
		if node.Kind == api.NodeFunc { // a call may stand ahead of its function
			p.numbers[node.Text] = len(p.numbers)
		}
	}
	p.write(l[1:])
	p.settle()
	return p
}

// write makes code of what stands in a program's row.
func (p *program) write(row []api.Node) {
	for len(row) > 0 {
		node := row[0]
		row = row[1:]
		if node.Kind == api.NodeFunc {
			w := writer{program: p, row: row}
			p.funcs = append(p.funcs, w.function(node))
			row = w.row
		}
	}
}

// settle finds the instruction of each site, when none of them moves any more.
func (p *program) settle() {
	p.homes = make([]*instr, len(p.sites))
	for _, f := range p.funcs {
		for i := range f.code {
			if in := &f.code[i]; in.Site >= 0 {
				p.homes[in.Site] = in
			}
		}
	}
}

func (p *program) function(name string) (function, bool) {
	i, known := p.numbers[name]
	if !known {
		return function{}, false
	}
	return p.funcs[i], true
}

// light is the word of a value, if that needs no cell.
func (p *program) light(v api.Value) (uint64, bool) {
	w, e := value.Box(p.bare, v, nil)
	return w, e == api.OK
}

// on tells a site that its instruction is done with such a pair, and answers in which form.
func (p *program) on(in *instr, pair int) int {
	form := p.sites[in.Site].On(pair)
	if form == api.Generic { // in another form it stays as it is
		p.rewrite(in)
	}
	return form
}

// rewrite makes an instruction do what the form of its site asks for.
func (p *program) rewrite(in *instr) {
	in.Form = p.sites[in.Site].Tell().Form
	in.Op = opOf(operatorOf(in.Op), in.Form)
}

// builtin is the number of a built-in function.
func (p *program) builtin(b builtin) int {
	n := slices.Index(p.builtins, b)
	if n < 0 {
		n = len(p.builtins)
		p.builtins = append(p.builtins, b)
	}
	return n
}
