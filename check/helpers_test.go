package check_test

import (
	"slices"
	"strconv"
	"strings"
	"testing"

	"casket/api"
	"casket/check"
	"casket/tree"
)

// mark stands in a source ahead of the token at which the fault is told; it is no byte of the source.
const mark = "@"

func parsed(t *testing.T, src string) []api.Node {
	t.Helper()
	l, f := tree.Parse(src)
	if f != (api.Fault{}) {
		t.Fatalf("Parse(%.90q): %v", src, f)
	}
	return l
}

// wantFault asks Check and Load, and whether the fault leaves something to the other calls.
func wantFault(t *testing.T, marked string, code api.Errno) {
	t.Helper()
	at := strings.Index(marked, mark)
	src := strings.Replace(marked, mark, "", 1)
	if at < 0 || strings.Contains(src, mark) {
		t.Fatalf("%.90q has not one mark", marked)
	}
	want := api.Fault{Code: code, At: at}
	l := parsed(t, src)
	if got := check.Check(l); got != want {
		t.Errorf("Check of %.90q: %v, want %v", marked, got, want)
	}
	wantRefused(t, src, want)
	wantNoSites(t, l)
	if code != api.ErrRegs {
		wantNoRegs(t, l)
	}
}

// wantRefused asks Load alone.
func wantRefused(t *testing.T, src string, want api.Fault) {
	t.Helper()
	if l, got := check.Load(src); got != want || len(l) > 0 {
		t.Errorf("Load(%.90q): %d nodes, %v, want %v", src, len(l), got, want)
	}
}

func wantNoSites(t *testing.T, l []api.Node) {
	t.Helper()
	if got := check.Sites(l); len(got) > 0 {
		t.Errorf("Sites of a tree that is refused: %v", got)
	}
}

func wantNoRegs(t *testing.T, l []api.Node) {
	t.Helper()
	for _, name := range []string{"f", "g", "h", "len", ""} {
		if got := check.Regs(l, name); got != 0 {
			t.Errorf("Regs of a tree that is refused, of %q: %d", name, got)
		}
	}
}

// wantTaken asks Check and Load.
func wantTaken(t *testing.T, src string) {
	t.Helper()
	l := parsed(t, src)
	if got := check.Check(l); got != (api.Fault{}) {
		t.Errorf("Check of %.90q: %v", src, got)
	}
	if got, f := check.Load(src); f != (api.Fault{}) || !slices.Equal(got, l) {
		t.Errorf("Load(%.90q): %d nodes, %v", src, len(got), f)
	}
}

func wantRegs(t *testing.T, src string, want int) {
	t.Helper()
	if got := check.Regs(parsed(t, src), "f"); got != want {
		t.Errorf("Regs of %.90q: %d, want %d", src, got, want)
	}
}

// many is a text for each number from 0 on: # stands in it for the number.
func many(n int, text string) string {
	var list strings.Builder
	for i := range n {
		list.WriteString(strings.ReplaceAll(text, "#", strconv.Itoa(i)))
	}
	return list.String()
}

// list is many, with a comma between each two.
func list(n int, text string) string {
	return strings.TrimSuffix(many(n, text+","), ",")
}
