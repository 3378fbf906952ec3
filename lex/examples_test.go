package lex_test

import "testing"

// The chapter's table 'Examples', row by row.

func TestExampleLet(t *testing.T) {
	wantTold(t, "let x=1..2 # y", "Word let 0, Name x 4, Mark = 5, Int 1 6, Mark .. 7, Int 2 9, End 14")
}

func TestExampleNumbers(t *testing.T) {
	wantTold(t, "0x1.8p+1-2", "Float 4008000000000000 0, Mark - 8, Int 2 9, End 10")
	wantTold(t, "0x1p-1", "Float 3fe0000000000000 0, End 6")
	wantTold(t, "0x1", "ErrNumber 0")
}

func TestExampleOthers(t *testing.T) {
	wantTold(t, `"a\n\x41"`, `Text "a\nA" 0, End 9`)
	wantTold(t, `"a`, "ErrString 0")
	wantTold(t, "!", "ErrByte 0")
	wantTold(t, ". ", "ErrByte 0")
	wantTold(t, "007", "ErrNumber 0")
}
