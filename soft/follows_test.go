package soft_test

import (
	"testing"

	"casket/api"
	"casket/soft"
)

// mixedOnes are the lists' patterns, and some of no kind.
func mixedOnes() []uint64 {
	list := allOnes()
	m := mixer(5)
	for range 100 {
		list = append(list, m.next())
	}
	return list
}

// 2.6: no NaN is answered but Canon.
func TestNoStray(t *testing.T) {
	for _, a := range mixedOnes() {
		wantNoStray(t, soft.Neg(a))
		wantNoStray(t, soft.Floor(a))
		wantNoStray(t, soft.FromInt(int64(a)))
		wantNoStray(t, soft.Wide(uint32(a>>32)))
		for _, b := range mixedOnes() {
			wantNoStray(t, soft.Add(a, b))
			wantNoStray(t, soft.Sub(a, b))
			wantNoStray(t, soft.Mul(a, b))
			wantNoStray(t, soft.Div(a, b))
		}
	}
}

func wantNoStray(t *testing.T, got uint64) {
	t.Helper()
	if isNaN(got) && got != api.Canon {
		t.Errorf("a stray NaN: %016x", got)
	}
}

// 2.6: Add and Mul don't hang on the order of their two, and Sub is Add of what Neg turned.
func TestAddMulSub(t *testing.T) {
	for _, a := range mixedOnes() {
		for _, b := range mixedOnes() {
			if x, y := soft.Add(a, b), soft.Add(b, a); x != y {
				t.Errorf("Add of %016x and %016x: %016x, and %016x", a, b, x, y)
			}
			if x, y := soft.Mul(a, b), soft.Mul(b, a); x != y {
				t.Errorf("Mul of %016x and %016x: %016x, and %016x", a, b, x, y)
			}
			if x, y := soft.Sub(a, b), soft.Add(a, soft.Neg(b)); x != y {
				t.Errorf("Sub of %016x and %016x: %016x, and Add of Neg %016x", a, b, x, y)
			}
		}
	}
}

// 2.6: Neg leads back.
func TestNegTwice(t *testing.T) {
	for _, a := range mixedOnes() {
		want := a
		if isNaN(a) {
			want = api.Canon
		}
		if got := soft.Neg(soft.Neg(a)); got != want {
			t.Errorf("Neg(Neg(%016x)): %016x", a, got)
		}
	}
}

// 2.7: Narrow leads back from Wide.
func TestNarrowOfWide(t *testing.T) {
	list := narrowOnes()
	m := mixer(6)
	for range 100000 {
		list = append(list, uint32(m.next()))
	}
	for _, a := range list {
		want := a
		if isNarrowNaN(a) {
			want = 0x7fc00000
		}
		if got := soft.Narrow(soft.Wide(a)); got != want {
			t.Errorf("Narrow(Wide(%08x)): %08x", a, got)
		}
	}
}

// 2.7: Trunc leads back from FromInt as far as 2^53, and not right behind it.
func TestTruncOfFromInt(t *testing.T) {
	var list []int64
	m := mixer(7)
	for n := range 54 {
		p := int64(1) << n
		list = append(list, p, p-1, -p, 1-p, int64(m.next()>>(64-n)), -int64(m.next()>>(64-n)))
	}
	for _, i := range list {
		wantTrunc(t, soft.FromInt(i), i, api.OK)
	}
	wantTrunc(t, soft.FromInt(1<<53+1), 1<<53, api.OK)
	wantTrunc(t, soft.FromInt(-1<<53-1), -1<<53, api.OK)
	wantTrunc(t, soft.FromInt(1<<63-1), 0, api.ErrRange)
}

// 2.7: LessEq is Less or Equal.
func TestLessEq(t *testing.T) {
	for _, a := range mixedOnes() {
		for _, b := range mixedOnes() {
			if soft.LessEq(a, b) != (soft.Less(a, b) || soft.Equal(a, b)) {
				t.Errorf("LessEq(%016x, %016x) is not Less or Equal", a, b)
			}
		}
	}
}
