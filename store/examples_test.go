package store_test

import (
	"testing"

	"casket/api"
	"casket/store"
)

// The chapter's table 'Examples', row by row: each goes on where the one ahead ended.
func TestExamples(t *testing.T) {
	s := store.New()

	wantTake(t, s, 3, 0, api.OK)
	wantTake(t, s, 0, 1, api.OK)
	wantTake(t, s, 9, 2, api.OK)
	wantUsed(t, s, 24)

	wantSave(t, s, 0, 0, 2, 258, api.OK)
	wantLoad(t, s, 0, 0, 1, 2, api.OK)
	wantLoad(t, s, 0, 1, 1, 1, api.OK)
	wantLoad(t, s, 0, 2, 2, 0, api.ErrIndex)
	wantLoad(t, s, 0, 1, 2, 0, api.ErrAlign)

	wantGive(t, s, 0, api.OK)
	wantGive(t, s, 0, api.ErrPlace)
	wantTake(t, s, 1, 0, api.OK)
	wantLoad(t, s, 0, 0, 1, 0, api.OK)

	wantTake(t, s, -1, 0, api.ErrRange)
	wantTake(t, s, 1<<23+1, 0, api.ErrLong)
	wantLoad(t, s, 9, 0, 1, 0, api.ErrPlace)
	wantLoad(t, s, 0, 0, 3, 0, api.ErrKind)
}
