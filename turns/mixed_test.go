package turns_test

import (
	"math/rand"
	"testing"

	"casket/api"
	"casket/turns"
)

// 17.3: however turns are cut and mixed, each machine's End is what its Run alone answers.

// job is a run, and what it answers alone.
type job struct {
	name string
	args []api.Raw
	fuel int64
	want api.End
}

// player is a machine in turns, as it must be by what it does alone.
type player struct {
	jobs  []job // those to come; the first one is under way, or has ended
	begun bool
	under bool
	ticks int64 // still to make
}

// crowd has players, and the machines that must do what they say.
type crowd struct {
	testing.TB
	*rand.Rand
	turns   *turns.Turns
	players []*player
	codes   map[api.Errno]int // how runs have ended
}

func newCrowd(t testing.TB, seed int64, codes map[api.Errno]int) *crowd {
	return &crowd{TB: t, Rand: rand.New(rand.NewSource(seed)), turns: turns.New(), codes: codes}
}

// join loads a machine of a drawn source; one that is refused must be refused as it is alone.
func (c *crowd) join() {
	c.Helper()
	src, kind := drawn(c.Int63()), c.Intn(2) == 0
	units := []int{0, 3, 10, 40, 300}[c.Intn(5)]
	if fault := faultAlone(src, units, kind); fault.Code != api.OK {
		if id, f := c.turns.Load(src, units, kind); id != 0 || f != fault {
			c.Errorf("Load(%q) is %d, %v; want %v", src, id, f, fault)
		}
		return
	}
	for range 1 + c.Intn(2) { // now and then two of one source, of the same kind or not
		load(c, c.turns, len(c.players), src, units, kind)
		c.players = append(c.players, &player{jobs: c.draw(src, units)})
		kind = c.Intn(2) == 0
	}
}

// draw works out jobs alone, by a machine of each kind. Things that go out are handed in again.
func (c *crowd) draw(src string, units int) []job {
	c.Helper()
	var list []job
	var things []api.Raw
	one, other := openAlone(c, src, units, tree), openAlone(c, src, units, regs)
	for len(list) < 4 {
		j := job{name: "f", args: raws(drawnArg(c.Rand, things), drawnArg(c.Rand, things))}
		if c.Intn(3) == 0 {
			j.name, j.args = "h", j.args[:1]
		}
		j.fuel = []int64{0, 1, 2, 9, 60, 300, 1000}[c.Intn(7)]
		end, e := one.Run(j.name, j.args, j.fuel)
		twin, e2 := other.Run(j.name, j.args, j.fuel)
		if e != e2 || !sameEnd(end, twin) {
			c.Fatalf("%q: %s, %d\nand %s, %d", src, short(end), e, short(twin), e2)
		}
		if e != api.OK { // there was no room for the arguments
			return append(list, job{})
		}
		j.want = end
		if end.Value.Kind >= api.F64 {
			things = append(things, end.Value)
		}
		list = append(list, j)
	}
	return append(list, job{})
}

// begin starts the next run of a machine, or asks for one while another is under way.
func (c *crowd) begin(id int) {
	c.Helper()
	p := c.players[id]
	if p.under {
		wantStart(c, c.turns, id, "f", raws(null, null), 9, api.ErrState)
		return
	}
	if p.begun {
		p.jobs = p.jobs[1:]
	}
	p.begun = false
	j := p.jobs[0]
	if j.name == "" {
		p.jobs = nil
		return
	}
	wantStart(c, c.turns, id, j.name, j.args, j.fuel, api.OK)
	p.begun, p.under, p.ticks = true, true, j.want.Ticks
}

// goOn cuts and mixes, and knows how many steps are true.
func (c *crowd) goOn() {
	c.Helper()
	var ids, slices []int
	for range c.Intn(8) {
		ids = append(ids, c.Intn(len(c.players)+4)-2)
	}
	for range max(0, len(ids)+c.Intn(4)-1) {
		slices = append(slices, []int{-5, 0, 1, 1, 2, 3, 8, 50, 1<<63 - 1}[c.Intn(9)])
	}
	want := int64(0)
	for i, id := range ids {
		if i < len(slices) && id >= 0 && id < len(c.players) {
			want += c.players[id].step(int64(slices[i]))
		}
	}
	wantGo(c, c.turns, slices, ids, want)
}

func (p *player) step(n int64) int64 {
	if !p.under || n <= 0 {
		return 0
	}
	if n > p.ticks {
		n = p.ticks
		p.under = false
	}
	p.ticks -= n
	return n
}

// look holds Left and each End against what they must be.
func (c *crowd) look() {
	c.Helper()
	var left []int
	for id, p := range c.players {
		switch {
		case p.under:
			left = append(left, id)
			wantNoEnd(c, c.turns, id, api.ErrState)
		case p.begun:
			wantEnd(c, c.turns, id, p.jobs[0].want)
			c.codes[p.jobs[0].want.Code]++
		}
	}
	wantLeft(c, c.turns, left...)
}

// anyone is a machine that has jobs left.
func (c *crowd) anyone() (int, bool) {
	var list []int
	for id, p := range c.players {
		if p.jobs != nil {
			list = append(list, id)
		}
	}
	if len(list) == 0 {
		return 0, false
	}
	return list[c.Intn(len(list))], true
}

func TestMixed(t *testing.T) {
	codes := map[api.Errno]int{}
	for seed := range int64(200) {
		c := newCrowd(t, seed, codes)
		for range 1 + c.Intn(3) {
			c.join()
		}
		for !t.Failed() {
			id, more := c.anyone()
			if !more {
				break
			}
			switch c.Intn(9) {
			case 0, 1, 2:
				c.begin(id)
			case 3:
				if len(c.players) < 6 {
					c.join()
				}
			default:
				c.goOn()
			}
			c.look()
		}
		if t.Failed() {
			t.Fatal("seed", seed)
		}
	}
	for _, code := range []api.Errno{api.OK, api.ErrFuel, api.ErrMemory, api.ErrType, api.ErrIndex} {
		if codes[code] < 20 {
			t.Error("drawn sources end hardly ever with", code, codes)
		}
	}
}

// Whatever the order in which machines go on by single steps, the ends are those alone: all orders of few steps.
func TestAllOrders(t *testing.T) {
	src := "let g; fn f(a) { g = a + 1; return g; }" // three ticks, and the step in which it ends
	want := api.End{}
	for _, kind := range kinds {
		want, _ = openAlone(t, src, 9, kind).Run("f", raws(whole(1)), 9)
		if !sameEnd(want, api.End{Ticks: 3, Value: whole(2)}) {
			t.Fatal(short(want))
		}
	}
	for order := range 1 << 8 {
		x := loaded(t, src, 9, tree, regs)
		start(t, x, 0, "f", 9, whole(1))
		start(t, x, 1, "f", 9, whole(1))
		steps := []int{0, 0}
		for bit := range 8 {
			id := order >> bit & 1
			steps[id]++
			made := int64(1)
			if steps[id] > 3 {
				made = 0
			}
			wantGo(t, x, []int{1}, []int{id}, made)
		}
		for id := range 2 {
			if steps[id] > 3 {
				wantEnd(t, x, id, want)
			} else {
				wantNoEnd(t, x, id, api.ErrState)
			}
		}
	}
}
