package ops_test

import (
	"math"
	"testing"

	"casket/api"
)

// The chapter's table 'Examples', row by row.

func TestExampleBinary(t *testing.T) {
	d := newDesk(t, 20)
	wantBinary(t, d.h, "+", smallWord(1), shortWord("a"), api.ErrType)
	wantBinary(t, d.h, "+", shortWord("a"), shortWord("b"), isText("ab"))
	wantBinary(t, d.h, "==", smallWord(1), doubleWord(0x1p+0), isTruth(true))
	wantBinary(t, d.h, "==", nilWord, falseWord, isTruth(false))
}

func TestExampleUnary(t *testing.T) {
	d := newDesk(t, 20)
	wantUnary(t, d.h, "~", smallWord(0), isInt(-1))
	wantUnary(t, d.h, "not", smallWord(0), api.ErrType)
	wantUnary(t, d.h, "!", smallWord(0), api.ErrArg)
}

func TestExampleNumbers(t *testing.T) {
	d := newDesk(t, 20)
	wantBuiltin(t, d.h, "int", args(doubleWord(0x1.8p+1)), isInt(3))
	wantBuiltin(t, d.h, "int", args(canonical(math.NaN())), api.ErrRange)
	wantBuiltin(t, d.h, "text", args(doubleWord(2.5)), isText("0x1.4p+1"))
	wantBuiltin(t, d.h, "chr", args(smallWord(65)), isText("A"))
}

func TestExampleRefusals(t *testing.T) {
	d := newDesk(t, 20)
	wantBuiltin(t, d.h, "num", args(d.text(t, "0x1p+0")), isDouble(0x1p+0), d.keep...)
	wantBuiltin(t, d.h, "num", args(shortWord("x")), api.ErrForm)
	wantBuiltin(t, d.h, "len", args(smallWord(5)), api.ErrType)
	wantBuiltin(t, d.h, "len", nil, api.ErrCount)
	wantBuiltin(t, d.h, "frob", nil, api.ErrName)
}
