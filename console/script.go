package console

import (
	"strconv"
	"strings"

	"casket/api"
	"casket/vm"
)

// machine is one of either kind: what is asked of it here, both answer alike.
type machine interface {
	Start(name string, args []api.Raw, fuel int64) api.Errno
	Step() bool
	State() (api.State, bool)
	End() (api.End, bool)
	Run(name string, args []api.Raw, fuel int64) (api.End, api.Errno)
	Global(name string) (api.Raw, api.Errno)
	SetGlobal(name string, r api.Raw) api.Errno
	Peek(ref int, i int64) (api.Raw, api.Errno)
	Poke(ref int, i int64, r api.Raw) api.Errno
	Release(ref int) api.Errno
	Reach() int
}

// script is what the lines so far have made, and told.
type script struct {
	commands  map[string]command
	source    strings.Builder
	machine   machine     // nil, as long as there is none
	registers *vm.Machine // the same one, if it is a register machine
	things    things      // of the machine
	told      strings.Builder
}

// line does one, whatever it is.
func (s *script) line(number int, line string) {
	if source, is := strings.CutPrefix(line, "|"); is {
		s.source.WriteString(source)
		s.source.WriteByte('\n')
		return
	}
	words := wordsOf(line)
	if len(words) == 0 || strings.HasPrefix(words[0], "#") {
		return
	}
	told, e := s.command(words)
	if e != nil {
		told = "line " + strconv.Itoa(number) + ": " + e.Error()
	}
	s.told.WriteString(told)
	s.told.WriteByte('\n')
}

// command does what a line's words say; what it tells has no byte 10 at its end.
func (s *script) command(words []string) (string, error) {
	c, known := s.commands[words[0]]
	if !known {
		return "", api.ErrLine
	}
	g, right := read(c.form, words[1:])
	switch {
	case !right:
		return "", api.ErrLine
	case !s.has(c.asks):
		return "", api.ErrState
	case !s.things.settle(g.values):
		return "", api.ErrRef
	}
	return c.do(s, g)
}

// has tells whether there is what a command asks.
func (s *script) has(asked int) bool {
	switch asked {
	case aMachine:
		return s.machine != nil
	case aRegisterMachine:
		return s.registers != nil
	}
	return true
}

// fault is what a source is refused with: unlike other errors it is told with its place.
type fault api.Fault

func (f fault) Error() string { return f.Code.Error() + " at " + strconv.Itoa(f.At) }
