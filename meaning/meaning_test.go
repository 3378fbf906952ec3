package meaning_test

import (
	"testing"

	"casket/api"
	"casket/heap"
	"casket/meaning"
	"casket/ops"
	"casket/word"
)

// What the machines' own tests ask of expressions goes through here; these are the parts, each for itself.

func TestLiteral(t *testing.T) {
	literals := map[int]int{}
	for _, x := range []struct {
		node api.Node
		want api.Value
	}{
		{api.Node{Kind: api.NodeInt, Int: 5}, api.Value{Kind: api.Int, Int: 5}},
		{api.Node{Kind: api.NodeFloat, Bits: 7}, api.Value{Kind: api.Float, Bits: 7}},
		{api.Node{Kind: api.NodeText, Text: "x"}, api.Value{Kind: api.Text, Text: "x"}},
		{api.Node{Kind: api.NodeTrue}, api.Value{Kind: api.Bool, Int: 1}},
		{api.Node{Kind: api.NodeFalse}, api.Value{Kind: api.Bool}},
		{api.Node{Kind: api.NodeNil}, api.Value{Kind: api.Nil}},
	} {
		literals[x.node.Kind]++
		if got := meaning.Literal(x.node); got != x.want {
			t.Errorf("%v: %v", x.node, got)
		}
	}
	for kind := -1; kind <= api.NodeNil+1; kind++ {
		if meaning.IsLiteral(kind) != (literals[kind] > 0) {
			t.Errorf("kind %d", kind)
		}
	}
}

func TestOperate(t *testing.T) {
	h, _ := heap.New(99)
	zero, _ := word.FromInt(0)
	one, _ := word.FromInt(1)
	minus, _ := word.FromInt(-1)
	null, yes, no := word.FromNil(), word.FromBool(true), word.FromBool(false)
	row, _ := ops.Builtin(h, "row", []uint64{one}, nil)
	for _, x := range []struct {
		kind int
		text string
		kids []uint64
		want uint64
		code api.Errno
	}{
		{api.NodeBinary, "-", []uint64{zero, one}, minus, api.OK},
		{api.NodeBinary, "//", []uint64{one, zero}, 0, api.ErrDivZero},
		{api.NodeUnary, "-", []uint64{one}, minus, api.OK},
		{api.NodeUnary, "~", []uint64{zero}, minus, api.OK},
		{api.NodeNot, "", []uint64{yes}, no, api.OK},
		{api.NodeNot, "", []uint64{one}, 0, api.ErrType},
		{api.NodeIndex, "", []uint64{row, zero}, null, api.OK},
		{api.NodeStore, "", []uint64{row, zero, yes}, null, api.OK},
		{api.NodeIndex, "", []uint64{row, zero}, yes, api.OK},
		{api.NodeStore, "", []uint64{row, one, yes}, 0, api.ErrIndex},
		{api.NodeCall, "len", []uint64{row}, one, api.OK},
		{api.NodeCall, "len", []uint64{row, row}, 0, api.ErrCount},
	} {
		node := api.Node{Kind: x.kind, Text: x.text, Kids: len(x.kids)}
		if w, e := meaning.Operate(h, node, x.kids, []uint64{row}); w != x.want || e != x.code {
			t.Errorf("%v: %x, %d; want %x, %d", node, w, e, x.want, x.code)
		}
	}
}

// What is handed along as roots stays, where something new is made.
func TestOperateKeepsRoots(t *testing.T) {
	h, _ := heap.New(6)
	long := "12345678"
	a, _ := h.Put(api.Cell{Kind: api.Text, Text: long}, nil)
	b, _ := h.Put(api.Cell{Kind: api.Text, Text: long}, []uint64{a})
	short, _ := word.FromText("9")
	add := api.Node{Kind: api.NodeBinary, Text: "+", Kids: 2}
	if _, e := meaning.Operate(h, add, []uint64{b, short}, []uint64{a}); e != api.ErrMemory {
		t.Error(e)
	}
	if _, e := meaning.Operate(h, add, []uint64{b, short}, nil); e != api.OK {
		t.Error(e)
	}
}
