package watch_test

import (
	"fmt"
	"math/rand"
	"strings"
	"testing"

	"casket/api"
	"casket/vm"
)

// W4, 21.5: drawn sources, with drawn arguments and fuel, in machines of both kinds.

// job is a run of a function.
type job struct {
	name string
	args []api.Raw
	fuel int64
}

// scene is a source and the runs that its machines make, one behind the other.
type scene struct {
	testing.TB
	*rand.Rand
	src   string
	units int
	jobs  []job
	met   map[string]int
}

func drawnScene(t testing.TB, seed int64, met map[string]int) *scene {
	d := rand.New(rand.NewSource(seed))
	c := &scene{TB: t, Rand: d, src: drawn(seed), units: []int{3, 12, 40, 400, 4000}[d.Intn(5)], met: met}
	for range 3 {
		j := job{"f", drawnArgs(d), []int64{0, 2, 9, 30, 300, 300, 1000}[d.Intn(7)]}
		if d.Intn(4) == 0 {
			j.name, j.args = "z", nil
		}
		c.jobs = append(c.jobs, j)
	}
	return c
}

func (c *scene) open(kind string) machine {
	c.Helper()
	return open(c, c.src, c.units, kind)
}

// each goes through the jobs with machines of each kind that stand alike, and the trace of a job by hand. No job is come to behind one that finds no room.
func (c *scene) each(kinds []string, do func(j job, x trace, list []machine)) {
	c.Helper()
	hand := c.open(tree)
	var list []machine
	for _, kind := range kinds {
		list = append(list, c.open(kind))
	}
	for _, j := range c.jobs {
		if e := hand.Start(j.name, j.args, j.fuel); e != api.OK {
			for _, m := range list {
				wantNoProfile(c, m, j.name, j.args, j.fuel, e)
				wantNoApart(c, m, m, j.name, j.args, j.fuel, e)
			}
			return
		}
		x := byHand(c, hand)
		c.met[fmt.Sprint("end ", int(x.end.Code))]++
		do(j, x, list)
		for _, m := range list {
			wantStand(c, m, x, len(x.states)+1)
			if m.Reach() != hand.Reach() {
				c.Error("Reach:", m.Reach(), hand.Reach())
			}
		}
	}
}

// profiles: the counts are those of the States behind each Step, and together the End's Ticks, in machines of both kinds.
func (c *scene) profiles() {
	c.Helper()
	c.each(kinds, func(j job, x trace, list []machine) {
		sum := int64(0)
		for _, count := range x.counts() {
			sum += count.N
		}
		if sum != x.end.Ticks {
			c.Errorf("%d ticks are counted of %d", sum, x.end.Ticks)
		}
		for _, m := range list {
			wantProfile(c, m, j.name, j.args, j.fuel, x.counts(), x.end)
		}
	})
}

// strolls: Until, Over and Step, mixed, stand where going by hand stands.
func (c *scene) strolls() {
	c.Helper()
	c.each(kinds, func(j job, x trace, list []machine) {
		for _, m := range list {
			start(c, m, j.name, j.fuel, j.args...)
			made := 0
			wantNoOver(c, m)
			for made <= len(x.states) {
				made = c.stroll(m, x, made)
			}
		}
	})
}

func (c *scene) stroll(m machine, x trace, made int) int {
	c.Helper()
	from, ok := made, false
	switch c.Intn(8) {
	case 0, 1, 2:
		made++
		if m.Step() != (made <= len(x.states)) {
			c.Fatal("Step")
		}
		wantStand(c, m, x, made)
		return made
	case 3:
		at := []int{c.Intn(len(c.src)), -1}
		for range c.Intn(4) { // places that are not far
			if ahead := x.states[from:]; len(ahead) > 0 {
				at = append(at, ahead[c.Intn(min(9, len(ahead)))].At)
			}
		}
		made, ok = x.until(from, at)
		wantUntil(c, m, at, x, made)
		c.met[fmt.Sprint("until ", ok)]++
	default:
		if from == 0 {
			return from
		}
		made, ok = x.over(from)
		wantOver(c, m, x, made)
		if made > from+1 {
			c.met[fmt.Sprint("over ", ok)]++
		}
	}
	return made
}

// alike: machines of one source that stand alike are not apart, whatever their kinds; the ticks are told.
func (c *scene) alike() {
	c.Helper()
	first, second := kinds[c.Intn(2)], kinds[c.Intn(2)]
	for _, pair := range [][]string{{tree, regs}, {regs, tree}, {first, second}} {
		c.each(pair, func(j job, x trace, list []machine) {
			c.force(list)
			wantApart(c, list[0], list[1], j.name, j.args, j.fuel, x.end.Ticks, false)
			c.met["apart false"]++
		})
	}
}

// force gives some sites other forms: that tells nobody apart (W9).
func (c *scene) force(list []machine) {
	for _, m := range list {
		if m, ok := m.(*vm.Machine); ok && c.Intn(2) == 0 {
			for i := range m.Sites() {
				m.Force(i, c.Intn(3))
			}
		}
	}
}

// changed is the source with a literal or an operator that is another one, at a drawn place.
func (c *scene) changed() string {
	list := [][2]string{{"0", "1"}, {"1", "2"}, {"true", "false"}, {" + ", " - "}, {" < ", " <= "}, {"ab", "ba"}, {" * ", " / "}, {"row", "f64"}, {"out", "out "}, {" ;", "  ;"}}
	for range 20 {
		x := list[c.Intn(len(list))]
		parts := strings.Split(c.src, x[0])
		if len(parts) < 2 {
			continue
		}
		i := 1 + c.Intn(len(parts)-1)
		src := strings.Join(parts[:i], x[0]) + x[1] + strings.Join(parts[i:], x[0])
		if _, fault := vm.New(src, 1); fault == (api.Fault{}) {
			return src
		}
	}
	return c.src
}

// unlike: machines of two sources part where their traces do.
func (c *scene) unlike() {
	c.Helper()
	other := c.changed()
	for _, first := range kinds {
		a, x := c.both(c.src, first)
		b, y := c.both(other, kinds[c.Intn(2)])
		for _, j := range c.jobs {
			if x.Start(j.name, j.args, j.fuel) != api.OK || y.Start(j.name, j.args, j.fuel) != api.OK {
				break
			}
			one, two := byHand(c, x), byHand(c, y)
			n, apart := one.apart(two)
			wantApart(c, a, b, j.name, j.args, j.fuel, n, apart)
			if apart {
				c.met["apart true"]++
				if n > 1 && n < int64(min(len(one.states), len(two.states))) {
					c.met["apart in the middle"]++
				}
			}
			finish(a)
			finish(b)
		}
	}
}

// both are a machine, and one of the other kind that is gone through by hand.
func (c *scene) both(src, kind string) (machine, machine) {
	other := tree
	if kind == tree {
		other = regs
	}
	return open(c, src, c.units, kind), open(c, src, c.units, other)
}

func finish(m machine) {
	for m.Step() {
	}
}

func TestDrawn(t *testing.T) {
	met := map[string]int{}
	for seed := range int64(400) {
		c := drawnScene(t, seed, met)
		c.profiles()
		c.strolls()
		c.alike()
		c.unlike()
		if t.Failed() {
			t.Fatalf("seed %d: %s", seed, c.src)
		}
	}
	for what, least := range map[string]int{
		"end 0": 200, fmt.Sprint("end ", int(api.ErrFuel)): 200, fmt.Sprint("end ", int(api.ErrType)): 20, fmt.Sprint("end ", int(api.ErrMemory)): 20,
		"until true": 200, "until false": 200, "over true": 100, "over false": 100, "apart false": 1000, "apart true": 200, "apart in the middle": 50,
	} {
		if met[what] < least {
			t.Errorf("%s: %d times", what, met[what])
		}
	}
}
