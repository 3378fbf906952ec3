package console

import (
	"testing"

	"casket/vm"
	"casket/walk"
)

// 18.3: which machine a line makes. But for sites and force no line tells it, as both do the same; so it is looked at from within.
func TestKindsOfMachines(t *testing.T) {
	s := script{commands: commands()}
	for number, line := range []string{"tree 9", "vm 9", "vm 9", "tree 9", "tree 9", "vm 9"} {
		s.line(number, line)
		switch m := s.machine.(type) {
		case *walk.Machine:
			if line != "tree 9" || s.registers != nil {
				t.Errorf("%s makes a %T", line, m)
			}
		case *vm.Machine:
			if line != "vm 9" || s.registers != m {
				t.Errorf("%s makes a %T", line, m)
			}
		default:
			t.Errorf("%s makes a %T", line, m)
		}
	}
}
