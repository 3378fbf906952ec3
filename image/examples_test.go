package image_test

import (
	"slices"
	"testing"

	"casket/api"
)

// The chapter's table 'Examples', row by row.
func TestExamples(t *testing.T) {
	wantSave(t, open(t, "", 9), []byte{0x43, 0, 9, 0, 0, 0})

	wantTaken(t, []byte{0x43, 0, 9, 0, 0, 0})
	wantWrong(t, []byte{0x43, 0, 9}, api.ErrCut, 3)
	wantWrong(t, []byte{0x44}, api.ErrKind, 0)
	wantWrong(t, []byte{0x43, 0, 9, 0, 0, 0, 0}, api.ErrTail, 6)

	source := []byte{0x43, 2, 0x66, 0x6e, 9}
	for n := range 9 {
		wantWrong(t, slices.Concat(source, make([]byte, n)), api.ErrSyntax, 4)
	}
}
