package word_test

import (
	"testing"

	"casket/api"
	"casket/word"
)

// answer is what a call that may refuse has answered.
type answer struct {
	w  uint64
	ok bool
}

func of(w uint64, ok bool) answer { return answer{w, ok} }

// The chapter's table 'Examples', row by row.

func TestExampleNilAndTruths(t *testing.T) {
	if w := word.FromNil(); w != 0xfff8000000000000 {
		t.Errorf("FromNil(): %016x", w)
	}
	if w := word.FromBool(false); w != 0xfff8000000000001 {
		t.Errorf("FromBool(false): %016x", w)
	}
	if w := word.FromBool(true); w != 0xfff8000000000002 {
		t.Errorf("FromBool(true): %016x", w)
	}
}

func TestExampleInts(t *testing.T) {
	wantAnswer(t, "FromInt(0)", of(word.FromInt(0)), answer{0xfff9000000000000, true})
	wantAnswer(t, "FromInt(-1)", of(word.FromInt(-1)), answer{0xfff9ffffffffffff, true})
	wantAnswer(t, "FromInt(2^47)", of(word.FromInt(1<<47)), answer{})
}

func TestExampleTexts(t *testing.T) {
	wantAnswer(t, `FromText("ab")`, of(word.FromText("ab")), answer{0xfffa020000006261, true})
	wantAnswer(t, `FromText("")`, of(word.FromText("")), answer{0xfffa000000000000, true})
	wantAnswer(t, `FromText("abcdef")`, of(word.FromText("abcdef")), answer{})
}

func TestExampleHandle(t *testing.T) {
	wantAnswer(t, "FromHandle(7)", of(word.FromHandle(7)), answer{0xfffb000000000007, true})
}

func TestExampleDoubles(t *testing.T) {
	for _, w := range []uint64{0, 0x7ff0000000000000, 0x7ff8000000000000} {
		wantClass(t, w, api.ClassDouble)
	}
}

func TestExampleStrays(t *testing.T) {
	for _, w := range []uint64{
		0x7ff8000000000001, 0xfff8000000000003, 0xfffa060000000000, 0xfffa010000006261, 0xfffc000000000000, 0x7ff0000000000001,
	} {
		wantClass(t, w, api.ClassStray)
	}
}

func TestExampleFloat(t *testing.T) {
	if w := word.FromFloat(0xfff8000000000000); w != 0x7ff8000000000000 {
		t.Errorf("FromFloat(fff8000000000000): %016x", w)
	}
}

func wantAnswer(t *testing.T, call string, got, want answer) {
	t.Helper()
	if got != want {
		t.Errorf("%s: %016x, %v, want %016x, %v", call, got.w, got.ok, want.w, want.ok)
	}
}
