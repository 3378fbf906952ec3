package fold_test

import (
	"math"
	"strings"
	"testing"

	"casket/api"
)

// Promise 19.1: which values have a literal, seen at what operators and functions become that answer them.

// Patterns of doubles.
const (
	plusZero  = 0
	minusZero = 1 << 63
	least     = 1
	one       = 0x3ff0000000000000
	half      = 0x3fe0000000000000
	greatest  = 0x7fefffffffffffff
	infinity  = 0x7ff0000000000000
	minusInf  = 0xfff0000000000000
)

func wholes(i int64) [][]api.Node { return [][]api.Node{leaf(whole(i))} }

// A literal is let be, wherever it stands.
func TestLiteralsStay(t *testing.T) {
	for _, node := range []api.Node{
		null, yes, no, whole(0), whole(5), whole(math.MaxInt64), double(plusZero), double(least), double(one), double(greatest), double(infinity), double(api.Canon),
		text(""), text("abc"), text("\x00\n\"\\\xff"), text(filler(1000)), text(filler(1001)), text(filler(100000)),
	} {
		wantStays(t, returned(leaf(node)))
		wantStays(t, returned(of(api.NodeIndex, "", leaf(node), leaf(node))))
	}
}

func TestWholesWithLiteral(t *testing.T) {
	for _, x := range []struct{ a, b int64 }{{0, 0}, {5, 5}, {1 << 47, 0}, {math.MaxInt64, 0}, {math.MaxInt64, math.MaxInt64}, {1, 0}, {7, 6}} {
		wantLiteral(t, of(api.NodeBinary, "-", leaf(whole(x.a)), leaf(whole(x.b))), whole(x.a-x.b))
	}
	for _, x := range []struct{ a, b int64 }{{0, 1}, {5, 6}, {0, 1 << 47}, {0, 1<<47 + 1}, {0, math.MaxInt64}, {math.MaxInt64 - 1, math.MaxInt64}} {
		wantStays(t, returned(of(api.NodeBinary, "-", leaf(whole(x.a)), leaf(whole(x.b)))))
	}
	wantLiteral(t, of(api.NodeUnary, "-", wholes(0)...), whole(0))
	for _, i := range []int64{1, 1 << 47, 1<<47 + 1, math.MaxInt64} {
		wantStays(t, returned(of(api.NodeUnary, "-", wholes(i)...)))
	}
	for _, i := range []int64{0, 1, math.MaxInt64} {
		wantStays(t, returned(of(api.NodeUnary, "~", wholes(i)...)))
	}
}

// frombits is the double with any pattern that a literal can say.
func TestDoublesWithLiteral(t *testing.T) {
	for _, bits := range []int64{plusZero, least, 2, half, one, one + 1, greatest, infinity, int64(api.Canon)} {
		wantLiteral(t, of(api.NodeCall, "frombits", wholes(bits)...), double(uint64(bits)))
	}
	for _, bits := range []int64{infinity + 1, int64(api.Canon) - 1, int64(api.Canon) + 1, math.MaxInt64} {
		wantLiteral(t, of(api.NodeCall, "frombits", wholes(bits)...), double(api.Canon))
	}
	for _, bits := range []uint64{plusZero, least, half, one, greatest, infinity} { // all of these have the sign then
		wantStays(t, returned(of(api.NodeUnary, "-", leaf(double(bits)))))
	}
	wantLiteral(t, of(api.NodeUnary, "-", leaf(double(api.Canon))), double(api.Canon))
	for word, bits := range map[string]uint64{"0x0p+0": plusZero, "0x1p+0": one, "0x1p-1074": least, "inf": infinity, "nan": api.Canon} {
		wantLiteral(t, of(api.NodeCall, "num", leaf(text(word))), double(bits))
		if word != "nan" {
			wantStays(t, returned(of(api.NodeCall, "num", leaf(text("-"+word)))))
		}
	}
	wantLiteral(t, of(api.NodeBinary, "-", leaf(double(one)), leaf(double(one))), double(plusZero))
	wantLiteral(t, of(api.NodeBinary, "-", leaf(double(infinity)), leaf(double(infinity))), double(api.Canon))
	wantLiteral(t, of(api.NodeBinary, "/", leaf(whole(0)), leaf(whole(0))), double(api.Canon))
	// A nought with the sign comes only of a kid that has it, too: that one is no literal.
	wantStays(t, returned(of(api.NodeBinary, "*", of(api.NodeUnary, "-", leaf(double(plusZero))), leaf(double(one)))))
}

func TestStringsWithLiteral(t *testing.T) {
	for _, n := range []int{0, 1, 5, 6, 500, 999, 1000} {
		for _, first := range []int{0, n / 2, n} {
			join := of(api.NodeBinary, "+", leaf(text(filler(first))), leaf(text(filler(n-first))))
			wantLiteral(t, join, text(filler(n)))
		}
		wantLiteral(t, of(api.NodeCall, "text", leaf(text(filler(n)))), text(filler(n)))
	}
	for _, n := range []int{1001, 1002, 2000, 5000} {
		for _, first := range []int{0, n / 2, n} {
			wantStays(t, returned(of(api.NodeBinary, "+", leaf(text(filler(first))), leaf(text(filler(n-first))))))
		}
		wantStays(t, returned(of(api.NodeCall, "text", leaf(text(filler(n))))))
	}
	// A literal of more bytes is one all the same: what is worked out of it may have a literal.
	long := strings.Repeat("0123456789", 500)
	wantLiteral(t, of(api.NodeCall, "len", leaf(text(long))), whole(5000))
	wantLiteral(t, of(api.NodeCall, "byte", leaf(text(long)), leaf(whole(4999))), whole('9'))
	wantLiteral(t, of(api.NodeCall, "sub", leaf(text(long)), leaf(whole(7)), leaf(whole(1007))), text(long[7:1007]))
	wantStays(t, returned(of(api.NodeCall, "sub", leaf(text(long)), leaf(whole(7)), leaf(whole(1008)))))
	wantLiteral(t, of(api.NodeBinary, "==", leaf(text(long)), leaf(text(long+"x"))), no)
	// What has no literal stays a node, of which nothing else is known.
	wantStays(t, returned(of(api.NodeCall, "len", of(api.NodeBinary, "+", leaf(text(filler(600))), leaf(text(filler(600)))))))
	wantLiteral(t, of(api.NodeCall, "len", of(api.NodeBinary, "+", leaf(text(filler(600))), leaf(text(filler(400))))), whole(1000))
}

func TestTruthsAndNilWithLiteral(t *testing.T) {
	wantLiteral(t, of(api.NodeNot, "", leaf(no)), yes)
	wantLiteral(t, of(api.NodeNot, "", leaf(yes)), no)
	wantLiteral(t, of(api.NodeBinary, "==", leaf(null), leaf(null)), yes)
	wantLiteral(t, of(api.NodeBinary, "!=", leaf(null), leaf(null)), no)
	wantLiteral(t, of(api.NodeCall, "text", leaf(null)), text("nil"))
	wantLiteral(t, of(api.NodeCall, "kind", leaf(null)), text("nil"))
}

// The heap has room for all: strings whose cells are, alone or together, more than any machine's heap has units for.
func TestRoomForAll(t *testing.T) {
	most := filler(api.MaxBytes)
	wantLiteral(t, of(api.NodeCall, "len", leaf(text(most))), whole(api.MaxBytes))
	wantLiteral(t, of(api.NodeBinary, "==", leaf(text(most)), leaf(text(most))), yes)
	wantLiteral(t, of(api.NodeCall, "sub", leaf(text(most)), leaf(whole(api.MaxBytes-3)), leaf(whole(api.MaxBytes))), text("xxx"))
	// A string that no word stands for has no answer of chapter 10; so has a sum that no cell could hold.
	wantStays(t, returned(of(api.NodeCall, "len", leaf(text(most+"x")))))
	wantStays(t, returned(of(api.NodeBinary, "==", leaf(whole(1)), leaf(text(most+"x")))))
	wantStays(t, returned(of(api.NodeBinary, "+", leaf(text(most)), leaf(text(most)))))
	wantLiteral(t, of(api.NodeAnd, "", leaf(no), of(api.NodeCall, "len", leaf(text(most+"x")))), no)
}
