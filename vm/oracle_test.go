package vm_test

import (
	"strconv"
	"testing"

	"casket/api"
	"casket/check"
	"casket/site"
	"casket/tree"
	"casket/walk"
)

// oracle tells how the sites of a source stand behind each tick of a run, without the register machine: by a source in which a function stands for each operator that has a site. The tree machine calls it when both operands have been worked out: its parameters are they.
type oracle struct {
	machine *walk.Machine
	added   int          // places from here on are those of the functions that were added
	number  map[int]int  // of the sites, by the places of these functions
	sites   []*site.Site // as chapter 14 has them
}

// stands is the name of the function that stands for a site's operator.
func stands(number int) string { return "site_" + strconv.Itoa(number) }

func newOracle(t testing.TB, src string, units int) *oracle {
	t.Helper()
	l, fault := check.Load(src)
	if fault.Code != api.OK {
		t.Fatalf("%q: %v", src, fault)
	}
	places := map[int]int{} // of the sites: their numbers
	o := &oracle{number: map[int]int{}}
	for i, at := range check.Sites(l) {
		places[at] = i
		o.sites = append(o.sites, site.New(at))
	}
	operators := make([]string, len(o.sites))
	for i, node := range l {
		if n, has := places[node.At]; has && node.Kind == api.NodeBinary {
			operators[n] = node.Text
			l[i].Kind, l[i].Text = api.NodeCall, stands(n)
		}
	}
	turned, e := tree.Print(l)
	if e != api.OK {
		t.Fatalf("%q: Print is %d", src, e)
	}
	o.added = len(turned)
	for n, operator := range operators {
		o.number[len(turned)+len("fn ")] = n
		turned += "fn " + stands(n) + "(a, b) { return a " + operator + " b; }"
	}
	if o.machine, fault = walk.New(turned, units); fault.Code != api.OK {
		t.Fatalf("%q: %v", turned, fault)
	}
	return o
}

// step goes on to the next tick of the source's own; the sites are told of all that is done till then.
func (o *oracle) step() bool {
	for o.machine.Step() {
		s, _ := o.machine.State()
		if s.At < o.added {
			return true
		}
		if n, has := o.number[s.At]; has {
			o.sites[n].On(pairOf(s.Vars[0], s.Vars[1]))
		}
	}
	return false
}

// pairOf is chapter 14's Pair, of what is told of two words.
func pairOf(a, b api.Raw) int {
	switch {
	case isSmall(a) && isSmall(b):
		return api.Whole
	case a.Kind == api.Float && b.Kind == api.Float:
		return api.Double
	}
	return api.Generic
}

func isSmall(r api.Raw) bool { return r.Kind == api.Int && r.Int >= -1<<47 && r.Int < 1<<47 }

func (o *oracle) tell() []api.Site {
	var list []api.Site
	for _, s := range o.sites {
		list = append(list, s.Tell())
	}
	return list
}
