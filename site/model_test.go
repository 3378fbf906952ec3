package site_test

import (
	"math/rand"
	"testing"

	"casket/api"
	"casket/site"
)

// model is the chapter's words by another way: it keeps what was met in the generic form, and looks back over it.
type model struct {
	told api.Site
	met  []int // since the row was last none by a form
}

func (m *model) on(pair int) int {
	if pair != w && pair != d {
		pair = g
	}
	if m.told.Form != g && m.told.Form == pair {
		m.told.Fast++
		return m.told.Form
	}
	if m.told.Form != g {
		m.told.Fails++
		m.set(g)
	}
	m.told.Generic++
	m.met = append(m.met, pair)
	if m.told.Fails < api.MaxFails && pair != g && m.rowIsLong(pair) {
		m.set(pair)
	}
	return g
}

func (m *model) set(form int) { m.told.Form, m.met = form, nil }

func (m *model) rowIsLong(kind int) bool {
	if len(m.met) < api.WarmUp {
		return false
	}
	for _, pair := range m.met[len(m.met)-api.WarmUp:] {
		if pair != kind {
			return false
		}
	}
	return true
}

func (m *model) force(form int) api.Errno {
	switch form {
	case g, w, d:
		m.set(form)
		return api.OK
	}
	return api.ErrArg
}

// act is one call: On of a pair, or Force of a form.
type act struct {
	force bool
	n     int
}

// both does it to a site and to the model; false, if they part.
func both(t *testing.T, s *site.Site, m *model, a act) bool {
	t.Helper()
	var got, want int
	if a.force {
		got, want = int(s.Force(a.n)), int(m.force(a.n))
	} else {
		got, want = s.On(a.n), m.on(a.n)
	}
	if got == want && s.Tell() == m.told {
		return true
	}
	t.Errorf("%+v: %d, %+v, want %d, %+v", a, got, s.Tell(), want, m.told)
	return false
}

// 14.3, 14.4: every row of so many calls, pairs and forms mixed.
func TestEveryShortRow(t *testing.T) {
	acts := []act{{false, g}, {false, w}, {false, d}, {false, -1}, {true, g}, {true, w}, {true, d}, {true, 3}}
	everyRow(t, acts, 6)
}

// 14.3: every row of so many pairs: long enough that two guards fail, and the second row is cut off.
func TestEveryRowOfPairs(t *testing.T) {
	everyRow(t, []act{{false, g}, {false, w}, {false, d}}, 11)
}

func everyRow(t *testing.T, acts []act, length int) {
	t.Helper()
	var from func(s site.Site, m model, left int) bool
	from = func(s site.Site, m model, left int) bool {
		if left == 0 {
			return true
		}
		for _, a := range acts {
			nextSite, nextModel := s, model{m.told, append([]int(nil), m.met...)}
			if !both(t, &nextSite, &nextModel, a) || !from(nextSite, nextModel, left-1) {
				t.Logf("with %d to come: %+v", left, a)
				return false
			}
		}
		return true
	}
	from(*site.New(5), model{told: api.Site{At: 5}}, length)
}

// drawn is the next call: mostly the pair of the last one, so that rows grow long.
func drawn(r *rand.Rand, last, steady, forced int) act {
	if forced > 0 && r.Intn(forced) == 0 {
		return act{true, drawnNumber(r)}
	}
	if r.Intn(steady) > 0 {
		return act{false, last}
	}
	return act{false, drawnNumber(r)}
}

func drawnNumber(r *rand.Rand) int {
	if n := r.Intn(8); n < 7 {
		return n % 3
	}
	return none[r.Intn(len(none))]
}

// 14.2 to 14.4: long rows, drawn, against the model.
func TestDrawnRows(t *testing.T) {
	r := rand.New(rand.NewSource(14))
	for range 3000 {
		at, steady, forced := r.Intn(2000)-1000, 1+r.Intn(12), r.Intn(3)*r.Intn(20)
		s, m := site.New(at), &model{told: api.Site{At: at}}
		last := g
		for range r.Intn(400) {
			a := drawn(r, last, steady, forced)
			if !both(t, s, m, a) {
				return
			}
			if !a.force {
				last = a.n
			}
		}
	}
}

// 14.3: Generic and Fast count the answers, every execution once.
func TestCountsAreOfAnswers(t *testing.T) {
	r := rand.New(rand.NewSource(143))
	for range 500 {
		s, last := site.New(0), g
		var generic, fast int64
		for range r.Intn(300) {
			a := drawn(r, last, 6, 15)
			if a.force {
				s.Force(a.n)
				continue
			}
			last = a.n
			if s.On(a.n) == g {
				generic++
			} else {
				fast++
			}
		}
		if told := s.Tell(); told.Generic != generic || told.Fast != fast {
			t.Fatalf("%d generic, %d fast: %+v", generic, fast, told)
		}
	}
}
