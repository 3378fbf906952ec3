package store

import "iter"

// block is an extent, or none. Those that have bytes are a ring, in the order in which they lie, with front between the last and the first.
// Those without bytes are not in it: they all lie at the row's end, wherever that is. So none of them lies where one with bytes begins: there their Ids would turn the order that Pack keeps.
type block struct {
	live       bool
	at, len    int
	back, next int // numbers of blocks
}

// front is the number of the block ahead of all others, which has no bytes.
const front = 0

// number is that of the block of an Id.
func number(id int) int { return id + 1 }

func (s *Store) block(n int) *block {
	if n == front {
		return &s.head
	}
	return &s.blocks[n-1]
}

// roundUp makes a length a multiple of 8.
func roundUp(n int) int { return (n + 7) &^ 7 }

// end is where the next block may begin.
func (b *block) end() int { return b.at + roundUp(b.len) }

// from tells the numbers of a block of the ring and of those behind it.
func (s *Store) from(n int) iter.Seq[int] {
	return func(yield func(int) bool) {
		for yield(n) {
			n = s.block(n).next
			if n == front {
				return
			}
		}
	}
}

// link puts a block into the ring, behind another.
func (s *Store) link(n, back int) {
	next := s.block(back).next
	s.block(n).back, s.block(n).next = back, next
	s.block(back).next = n
	s.block(next).back = n
}

// unlink takes a block out of the ring; the hand does not stay at one that is gone.
func (s *Store) unlink(n int) {
	back, next := s.block(n).back, s.block(n).next
	s.block(back).next = next
	s.block(next).back = back
	if s.hand == n {
		s.hand = back
	}
}
