package site_test

import (
	"testing"

	"casket/api"
	"casket/site"
	"casket/word"
)

// wordsOf are words of each class, the edges among them; those of no number stand under nought.
func wordsOf() [3][]uint64 {
	whole := []uint64{0xfff9000000000000, 0xfff9000000000001, 0xfff9ffffffffffff, 0xfff9800000000000, 0xfff97fffffffffff}
	double := []uint64{
		0, 1 << 63, 1, 1<<63 | 1, 0x3ff0000000000000, 0xbff0000000000000, 0x000fffffffffffff, 0x0010000000000000,
		0x7fefffffffffffff, 0xffefffffffffffff, 0x7ff0000000000000, 0xfff0000000000000, api.Canon,
	}
	neither := []uint64{
		word.FromNil(), word.FromBool(false), word.FromBool(true),
		0xfffa000000000000, 0xfffa010000000061, 0xfffa056564636261,
		0xfffb000000000000, 0xfffb000000000007, 0xfffbffffffffffff,
		0xfff8000000000003, 0xfffa060000000000, 0xfffa010000006261, 0xfffc000000000000, 0xfffd000000000005, 0xffffffffffffffff,
		0x7ff0000000000001, 0x7ff7ffffffffffff, 0x7ff8000000000001, 0x7ff9000000000005, 0x7fffffffffffffff,
		0xfff0000000000001, 0xfff7ffffffffffff,
	}
	return [3][]uint64{w: whole, d: double, g: neither}
}

// 14.1: words of each two classes, either way round.
func TestPair(t *testing.T) {
	words := wordsOf()
	for kindA, listA := range words {
		for kindB, listB := range words {
			want := g
			if kindA == kindB {
				want = kindA
			}
			wantPairs(t, listA, listB, want)
		}
	}
}

func wantPairs(t *testing.T, listA, listB []uint64, want int) {
	t.Helper()
	for _, a := range listA {
		for _, b := range listB {
			if got := site.Pair(a, b); got != want {
				t.Errorf("Pair(%016x, %016x): %d, want %d", a, b, got, want)
			}
		}
	}
}

// 14.1: a bit of the head away from a whole number's or a double's word is another class.
func TestPairByTheHead(t *testing.T) {
	for head := range uint64(1 << 16) {
		x := head<<48 | 0x5
		want := g
		switch {
		case head == 0xfff9:
			want = w
		case head&0x7ff0 != 0x7ff0:
			want = d
		}
		if got := site.Pair(x, x); got != want {
			t.Fatalf("Pair of %016x twice: %d, want %d", x, got, want)
		}
	}
}
