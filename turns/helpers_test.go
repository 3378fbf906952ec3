package turns_test

import (
	"fmt"
	"slices"
	"testing"

	"casket/api"
	"casket/turns"
	"casket/vm"
	"casket/walk"
)

// Raw values.

var null = api.Raw{}

func whole(i int64) api.Raw { return api.Raw{Kind: api.Int, Int: i} }

func text(s string) api.Raw { return api.Raw{Kind: api.Text, Text: s} }

// thing is one as it goes out.
func thing(kind, ref, n int) api.Raw { return api.Raw{Kind: kind, Ref: ref, Len: n} }

func raws(list ...api.Raw) []api.Raw { return list }

// plenty is more than most runs need: units, and fuel.
const plenty = 1000

// Kinds of machines, as Load takes them.
const (
	tree = true
	regs = false
)

var kinds = []bool{tree, regs}

// alone is a machine that goes in no turns.
type alone interface {
	Run(name string, args []api.Raw, fuel int64) (api.End, api.Errno)
}

// openAlone is one of a source that is taken; of either kind.
func openAlone(t testing.TB, src string, units int, kind bool) alone {
	t.Helper()
	var m alone
	var fault api.Fault
	if kind == tree {
		m, fault = walk.New(src, units)
	} else {
		m, fault = vm.New(src, units)
	}
	if fault != (api.Fault{}) {
		t.Fatalf("New(%.300q, %d): %v", src, units, fault)
	}
	return m
}

// faultAlone is what New tells of a source that is refused.
func faultAlone(src string, units int, kind bool) api.Fault {
	if kind == tree {
		_, fault := walk.New(src, units)
		return fault
	}
	_, fault := vm.New(src, units)
	return fault
}

// load makes machines of a source, one of each kind that is named; their numbers must follow those that there are.
func load(t testing.TB, x *turns.Turns, first int, src string, units int, kinds ...bool) {
	t.Helper()
	for i, kind := range kinds {
		id, fault := x.Load(src, units, kind)
		if id != first+i || fault != (api.Fault{}) {
			t.Fatalf("Load(%.300q, %d, %v) is %d, %v; want %d", src, units, kind, id, fault, first+i)
		}
	}
}

// loaded has machines of one source.
func loaded(t testing.TB, src string, units int, kinds ...bool) *turns.Turns {
	t.Helper()
	x := turns.New()
	load(t, x, 0, src, units, kinds...)
	return x
}

func start(t testing.TB, x *turns.Turns, id int, name string, fuel int64, args ...api.Raw) {
	t.Helper()
	wantStart(t, x, id, name, args, fuel, api.OK)
}

func wantStart(t testing.TB, x *turns.Turns, id int, name string, args []api.Raw, fuel int64, want api.Errno) {
	t.Helper()
	if e := x.Start(id, name, args, fuel); e != want {
		t.Errorf("Start(%d, %s, %s, %d) is %d; want %d", id, name, short(args), fuel, e, want)
	}
}

func wantGo(t testing.TB, x *turns.Turns, slices, ids []int, want int64) {
	t.Helper()
	if n := x.Go(slices, ids); n != want {
		t.Errorf("Go(%v, %v) is %d; want %d", slices, ids, n, want)
	}
}

func wantEnd(t testing.TB, x *turns.Turns, id int, want api.End) {
	t.Helper()
	if end, e := x.End(id); e != api.OK || !sameEnd(end, want) {
		t.Errorf("End(%d): %s, %d\nwant %s", id, short(end), e, short(want))
	}
}

// wantNoEnd asks for an error, and that nothing is told beside it.
func wantNoEnd(t testing.TB, x *turns.Turns, id int, want api.Errno) {
	t.Helper()
	end, e := x.End(id)
	if e != want || end.Out != nil || !sameEnd(end, api.End{}) {
		t.Errorf("End(%d): %s, %d; want %d", id, short(end), e, want)
	}
}

func wantLeft(t testing.TB, x *turns.Turns, want ...int) {
	t.Helper()
	if left := x.Left(); !slices.Equal(left, want) {
		t.Errorf("Left is %v; want %v", left, want)
	}
}

func sameEnd(a, b api.End) bool {
	return a.Code == b.Code && a.At == b.At && a.Ticks == b.Ticks && a.Value == b.Value && slices.Equal(a.Out, b.Out)
}

// short is what is told of something that may have long strings in it.
func short(x any) string {
	told := fmt.Sprintf("%+v", x)
	if len(told) > 300 {
		return told[:300] + ".."
	}
	return told
}
