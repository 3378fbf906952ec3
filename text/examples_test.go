package text_test

import (
	"testing"

	"casket/api"
	"casket/text"
)

// The chapter's table 'Examples', row by row.

func TestExampleConcat(t *testing.T) {
	h := newHeap(t, 10)
	if w, e := text.Concat(h, shortWord("ab"), shortWord("cde"), nil); w != 0xfffa056564636261 || e != api.OK {
		t.Errorf(`Concat("ab", "cde") is %x, %d`, w, e)
	}
	w, e := text.Concat(h, shortWord("abc"), shortWord("def"), nil)
	if w>>48 != 0xfffb || e != api.OK {
		t.Errorf(`Concat("abc", "def") is %x, %d; want a handle`, w, e)
	}
	wantOf(t, h, w, "abcdef")
}

func TestExampleParts(t *testing.T) {
	h := newHeap(t, 10)
	wantSub(t, h, put(t, h, textCell("abcdef")), 1, 3, "bc")
	wantNoSub(t, h, shortWord("ab"), 1, 3, api.ErrIndex)
	wantByte(t, h, shortWord("ab"), 1, 98)
	wantNoByte(t, h, shortWord("ab"), 2, api.ErrIndex)
}

func TestExampleCompare(t *testing.T) {
	h := newHeap(t, 10)
	wantCompare(t, h, shortWord("a"), shortWord("ab"), -1)
	if n, e := text.Len(h, smallWord(5)); n != 0 || e != api.ErrType {
		t.Errorf("Len(the number 5) is %d, %d", n, e)
	}
}
