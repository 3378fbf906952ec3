package value_test

import (
	"testing"

	"casket/api"
)

// The chapter's table 'Examples', row by row.

func TestExampleWords(t *testing.T) {
	h := newHeap(t, 10)
	wantBox(t, h, api.Value{Kind: api.Int, Int: 5}, 0xfff9000000000005)
	a := wantCell(t, h, api.Value{Kind: api.Int, Int: 1 << 47}, api.Cell{Kind: api.Int, Int: 1 << 47})
	wantBox(t, h, api.Value{Kind: api.Text, Text: "hello"}, 0xfffa056f6c6c6568, a)
	wantCell(t, h, api.Value{Kind: api.Text, Text: "hello!"}, api.Cell{Kind: api.Text, Text: "hello!"}, a)
}

func TestExampleFloat(t *testing.T) {
	wantBox(t, newHeap(t, 0), api.Value{Kind: api.Float, Bits: 0xfff8000000000000}, 0x7ff8000000000000)
}

func TestExampleWrong(t *testing.T) {
	h := newHeap(t, 10)
	wantNoBox(t, h, api.Value{Kind: api.Bool, Int: 2}, api.ErrArg)
	wantNoBox(t, h, api.Value{Kind: api.Int, Int: 5, Bits: 1}, api.ErrArg)
	wantNoBox(t, h, api.Value{Kind: api.Row, Ref: 0}, api.ErrHandle)
}
