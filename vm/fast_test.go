package vm_test

import (
	"math"
	"math/rand"
	"slices"
	"strings"
	"testing"

	"casket/api"
	"casket/vm"
	"casket/walk"
)

// Promises 16.2 and 16.4: whatever form an operator is done in, the outcome is chapter 10's.

// operands are values at which something turns.
func operands() []api.Raw {
	list := raws(null, truth(false), truth(true), text(""), text("a"), text("abcdefgh"))
	for _, i := range []int64{0, 1, 2, 3, 7, 10, 1 << 23, 1<<24 - 1, 1 << 31, 1 << 46, 1<<47 - 1, 1 << 47, 1 << 53, 1<<53 + 1, 1 << 62, 1<<63 - 1} {
		list = append(list, whole(i), whole(-i))
	}
	list = append(list, whole(-1<<63), whole(-1<<47-1))
	for _, x := range []float64{0, 0.1, 0.5, 1, 1.5, 2, 3, 7, 10, 1 << 47, 1 << 53, 1 << 63, 1e17, 1e300, math.MaxFloat64, math.SmallestNonzeroFloat64, math.Inf(1)} {
		list = append(list, double(math.Float64bits(x)), double(math.Float64bits(-x)))
	}
	return append(list, double(api.Canon), double(0xfff0000000000001))
}

// outcomes asks both machines of an operator; the register machine in each form.
type outcomes struct {
	operator string
	tree     *walk.Machine
	regs     map[int]*vm.Machine // by the form
}

func newOutcomes(t *testing.T, operator string, units int) outcomes {
	t.Helper()
	src := "fn f(a, b) { return a " + operator + " b; }"
	o := outcomes{operator: operator, tree: pair(t, src, units).tree, regs: map[int]*vm.Machine{}}
	for _, form := range forms {
		o.regs[form] = load(t, src, units)
	}
	return o
}

func (o outcomes) want(t *testing.T, a, b api.Raw) {
	t.Helper()
	want, e := o.tree.Run("f", raws(a, b), 9)
	for _, form := range forms {
		m := o.regs[form]
		wantForce(t, m, 0, form, api.OK)
		got, ge := m.Run("f", raws(a, b), 9)
		if ge != e || !sameEnd(got, want) {
			t.Errorf("%v %s %v in form %d: %v, %d; want %v, %d", a, o.operator, b, form, got, ge, want, e)
		}
	}
}

// sited are the operators that have sites.
func sited() []string { return strings.Fields("+ - * / // % < <= > >= == !=") }

func TestOutcomes(t *testing.T) {
	list := operands()
	for _, operator := range sited() {
		for _, units := range []int{plenty, 0, 1, 2, 3, 4, 5, 6} {
			o := newOutcomes(t, operator, units)
			for _, a := range list {
				for _, b := range list {
					o.want(t, a, b)
				}
			}
		}
	}
}

func TestOutcomesDrawn(t *testing.T) {
	c := rand.New(rand.NewSource(16))
	for _, operator := range sited() {
		o := newOutcomes(t, operator, plenty)
		for range 3000 {
			o.want(t, whole(drawnWhole(c)), whole(drawnWhole(c)))
			a, b := c.Uint64(), c.Uint64()
			if c.Intn(2) == 0 { // of about the same size
				b = a&^(1<<20-1) | b&(1<<20-1)
			}
			o.want(t, double(a), double(b))
		}
	}
}

// drawnWhole is a number of so many bits as it comes.
func drawnWhole(c *rand.Rand) int64 { return int64(c.Uint64()) >> (16 + c.Intn(46)) }

// What is worked out in another form is no NaN but the canonical one, wherever it goes.
func TestOutcomesAreCanonical(t *testing.T) {
	m := load(t, "let g; fn f(a, b) { g = a - b; let r = f64(1); r[0] = a / b; out g; return r; }", plenty)
	inf := double(0x7ff0000000000000)
	for _, form := range forms {
		wantForce(t, m, 0, form, api.OK)
		wantForce(t, m, 1, form, api.OK)
		end := run(t, m, "f", inf, inf)
		if !slices.Equal(end.Out, []string{"nan"}) {
			t.Error(end)
		}
		if g, _ := m.Global("g"); g != double(api.Canon) {
			t.Error(g)
		}
		if x, _ := m.Peek(end.Value.Ref, 0); x != double(api.Canon) {
			t.Error(x)
		}
	}
}
