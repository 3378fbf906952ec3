package turns

import (
	"testing"

	"casket/vm"
	"casket/walk"
)

// 17.1: Load's last argument says which machine it is. No call of the chapter tells it, as both do the same; so it is looked at from within.
func TestKindsOfMachines(t *testing.T) {
	x := New()
	for id := range 6 {
		tree := id%3 == 0
		x.Load("fn f() { }", 9, tree)
		switch m := x.machines[id].(type) {
		case *walk.Machine:
			if !tree {
				t.Errorf("machine %d is a %T", id, m)
			}
		case *vm.Machine:
			if tree {
				t.Errorf("machine %d is a %T", id, m)
			}
		}
	}
}
