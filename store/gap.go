package store

// spare is how many bytes the row may have beyond twice those that are used.
const spare = 64

// lay gives a new block its place and its bytes.
func (s *Store) lay(n int) {
	b := s.block(n)
	back := s.seek(roundUp(b.len))
	b.at = s.block(back).end()
	if more := b.end() - len(s.row); more > 0 {
		s.row = append(s.row, make([]byte, more)...)
	}
	clear(s.row[b.at:b.end()])
	s.link(n, back)
	s.hand = n
}

// seek answers the number of a block with a gap of size bytes behind it.
// The hand goes over the row once from the front on, ahead of each time that blocks are moved together: so what seeking and moving cost is bounded by the bytes that were taken and given in between.
func (s *Store) seek(size int) int {
seek:
	for {
		for n := range s.from(s.hand) {
			if s.room(n) >= size {
				s.hand = n
				break seek
			}
		}
		if s.sought {
			s.Pack()
		} else {
			s.hand, s.sought = front, true
		}
	}
	return s.hand
}

// room is how many bytes are free behind a block; behind the last one the row may grow.
func (s *Store) room(n int) int {
	b := s.block(n)
	if b.next == front {
		return 2*s.used + spare - b.end()
	}
	return s.block(b.next).at - b.end()
}

// Pack moves the extents together, in the order in which they lie.
func (s *Store) Pack() {
	end := 0
	for n := range s.from(front) {
		b := s.block(n)
		copy(s.row[end:], s.row[b.at:b.at+b.len])
		b.at = end
		end = b.end()
		s.hand = n
	}
	s.row = s.row[:end]
	s.sought = false
}
