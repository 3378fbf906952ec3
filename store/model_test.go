package store_test

import (
	"maps"
	"math"
	"slices"
	"testing"

	"casket/api"
	"casket/store"
)

const (
	least = math.MinInt
	most  = math.MaxInt
)

// strangeIds are Ids that no extent of a small store has.
var strangeIds = []int{least, least + 1, -8, -1, 1000, 1 << 31, 1 << 32, most - 1, most}

func wantTake(t *testing.T, s *store.Store, n, want int, e api.Errno) {
	t.Helper()
	if got, told := s.Take(n); got != want || told != e {
		t.Fatalf("Take(%d) is %d, %d; want %d, %d", n, got, told, want, e)
	}
}

func wantGive(t *testing.T, s *store.Store, id int, e api.Errno) {
	t.Helper()
	if told := s.Give(id); told != e {
		t.Fatalf("Give(%d) is %d; want %d", id, told, e)
	}
}

func wantLen(t *testing.T, s *store.Store, id, want int, e api.Errno) {
	t.Helper()
	if got, told := s.Len(id); got != want || told != e {
		t.Fatalf("Len(%d) is %d, %d; want %d, %d", id, got, told, want, e)
	}
}

func wantLoad(t *testing.T, s *store.Store, id, off, width int, want uint64, e api.Errno) {
	t.Helper()
	if got, told := s.Load(id, off, width); got != want || told != e {
		t.Fatalf("Load(%d, %d, %d) is %x, %d; want %x, %d", id, off, width, got, told, want, e)
	}
}

func wantSave(t *testing.T, s *store.Store, id, off, width int, x uint64, e api.Errno) {
	t.Helper()
	if told := s.Save(id, off, width, x); told != e {
		t.Fatalf("Save(%d, %d, %d, %x) is %d; want %d", id, off, width, x, told, e)
	}
}

func wantUsed(t *testing.T, s *store.Store, want int) {
	t.Helper()
	if got := s.Used(); got != want {
		t.Fatalf("Used is %d; want %d", got, want)
	}
}

func rounded(n int) int { return (n + 7) / 8 * 8 }

func extents(s *store.Store) []api.Extent { return slices.Collect(s.Extents()) }

// model says of a store what it must hold.
type model struct {
	t    *testing.T
	s    *store.Store
	have map[int][]byte // by Id
	used int
	most int // the greatest used that there was
}

func newModel(t *testing.T) *model {
	return &model{t: t, s: store.New(), have: map[int][]byte{}}
}

func (m *model) leastId() int {
	id := 0
	for m.have[id] != nil {
		id++
	}
	return id
}

// take takes an extent, which must be blank, and fills it.
func (m *model) take(n int) int {
	m.t.Helper()
	id := m.leastId()
	wantTake(m.t, m.s, n, id, api.OK)
	m.have[id] = make([]byte, n)
	m.used += rounded(n)
	m.most = max(m.most, m.used)
	m.look()
	for i := range n {
		m.save(id, i, 1, uint64(id*31+i*7+n)|0x81)
	}
	return id
}

func (m *model) give(id int) {
	m.t.Helper()
	b, there := m.have[id]
	if !there {
		wantGive(m.t, m.s, id, api.ErrPlace)
		m.look()
		return
	}
	wantGive(m.t, m.s, id, api.OK)
	m.used -= rounded(len(b))
	delete(m.have, id)
	m.look()
}

// save is for what may be saved.
func (m *model) save(id, off, width int, x uint64) {
	m.t.Helper()
	wantSave(m.t, m.s, id, off, width, x, api.OK)
	for i := range width {
		m.have[id][off+i] = byte(x >> (8 * i))
	}
}

// pack looks at what has moved where.
func (m *model) pack() {
	m.t.Helper()
	want := extents(m.s)
	at := 0
	for i := range want {
		want[i].At = at
		at += rounded(want[i].Len)
	}
	m.s.Pack()
	if got := extents(m.s); !slices.Equal(got, want) {
		m.t.Fatalf("behind Pack: %v; want %v", got, want)
	}
	if m.s.Span() != m.used {
		m.t.Fatalf("behind Pack: Span %d; want %d", m.s.Span(), m.used)
	}
	m.look()
}

// look holds all that the store tells against the model.
func (m *model) look() {
	m.t.Helper()
	m.lookAtPlaces()
	for id, b := range m.have {
		wantLen(m.t, m.s, id, len(b), api.OK)
		for i, c := range b {
			wantLoad(m.t, m.s, id, i, 1, uint64(c), api.OK)
		}
	}
}

func (m *model) lookAtPlaces() {
	m.t.Helper()
	span := m.s.Span()
	wantUsed(m.t, m.s, m.used)
	if span < m.used || span > 2*m.most+64 {
		m.t.Fatalf("Span is %d, with %d used and never more than %d", span, m.used, m.most)
	}
	told := map[int]bool{}
	last := api.Extent{At: -1}
	end := 0
	for x := range m.s.Extents() {
		if x.At < last.At || x.At == last.At && x.Id <= last.Id {
			m.t.Fatalf("%v is told behind %v", x, last)
		}
		if x.At%8 != 0 || x.At < 0 || x.At+x.Len > span {
			m.t.Fatalf("%v in a row of %d bytes", x, span)
		}
		if x.Len > 0 && x.At < end {
			m.t.Fatalf("%v begins ahead of %d", x, end)
		}
		b, there := m.have[x.Id]
		if !there || len(b) != x.Len || told[x.Id] {
			m.t.Fatalf("%v: there %v, %d bytes, told already %v", x, there, len(b), told[x.Id])
		}
		told[x.Id] = true
		last = x
		end = max(end, x.At+x.Len)
	}
	if len(told) != len(m.have) {
		m.t.Fatalf("%d extents are told; want %d", len(told), len(m.have))
	}
}

// ids are those of the extents, rising.
func (m *model) ids() []int { return slices.Sorted(maps.Keys(m.have)) }

// chance answers numbers below n that look mixed, the same in every run.
type chance uint64

func (c *chance) below(n int) int {
	*c = *c*6364136223846793005 + 1442695040888963407
	return int(*c>>33) % n
}

func (c *chance) word() uint64 {
	return uint64(c.below(1<<22))<<42 ^ uint64(c.below(1<<22))<<21 ^ uint64(c.below(1<<22))
}
