package fold_test

import (
	"slices"
	"testing"

	"casket/api"
)

// The chapter's examples, row by row.
func TestExamples(t *testing.T) {
	l := parsed(t, "fn f() { return 1 + 2 * 3; }")
	seven := api.Node{Kind: api.NodeInt, At: 18, Int: 7}
	wantRow(t, l, append(slices.Clone(l[:4]), seven))

	wantStays(t, parsed(t, "fn f() { return 1 - 2; }"))
	l = parsed(t, "fn f() { return 1 / 0; }")
	inf := api.Node{Kind: api.NodeFloat, At: 18, Bits: 0x7ff0000000000000}
	wantRow(t, l, append(slices.Clone(l[:4]), inf))

	l = parsed(t, "fn f(a) { return false and a or not true; }")
	wantRow(t, l, append(slices.Clone(l[:5]), api.Node{Kind: api.NodeFalse, At: 29}))

	l = parsed(t, `fn f() { return "a" + "b" + text(2); }`)
	ab2 := api.Node{Kind: api.NodeText, At: 26, Text: "ab2"}
	wantRow(t, l, append(slices.Clone(l[:4]), ab2))

	wantStays(t, parsed(t, "fn f() { return 1 + true; }"))
}
