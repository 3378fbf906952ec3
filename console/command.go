package console

import (
	"strings"

	"casket/api"
	"casket/lex"
	"casket/numtext"
	"casket/quote"
	"casket/tree"
	"casket/vm"
	"casket/walk"
)

// What a command asks beside the source.
const (
	nothing = iota
	aMachine
	aRegisterMachine
)

// command is what a line's first word means.
type command struct {
	form string // of the words behind it
	asks int
	do   func(s *script, g given) (string, error)
}

func commands() map[string]command {
	return map[string]command{
		"clear":   {"", nothing, (*script).clear},
		"tokens":  {"", nothing, (*script).tokens},
		"print":   {"", nothing, (*script).print},
		"tree":    {aNumber, nothing, (*script).openTree},
		"vm":      {aNumber, nothing, (*script).openRegisters},
		"run":     {aWord + aNumber + anyValues, aMachine, (*script).run},
		"start":   {aWord + aNumber + anyValues, aMachine, (*script).start},
		"step":    {aNumber, aMachine, (*script).step},
		"global":  {aWord, aMachine, (*script).global},
		"set":     {aWord + aValue, aMachine, (*script).set},
		"peek":    {aNumber + aNumber, aMachine, (*script).peek},
		"poke":    {aNumber + aNumber + aValue, aMachine, (*script).poke},
		"release": {aNumber, aMachine, (*script).release},
		"reach":   {"", aMachine, (*script).reach},
		"sites":   {"", aRegisterMachine, (*script).sites},
		"force":   {aNumber + aNumber, aRegisterMachine, (*script).force},
	}
}

// done is what most commands tell that have nothing to tell.
func done(e api.Errno) (string, error) {
	if e != api.OK {
		return "", e
	}
	return "ok", nil
}

// counts is a word and numbers behind it.
func counts(word string, numbers ...int64) string {
	for _, n := range numbers {
		word += blank + numtext.Int(n)
	}
	return word
}

func (s *script) clear(given) (string, error) {
	s.source.Reset()
	return done(api.OK)
}

func (s *script) tokens(given) (string, error) {
	list, f := lex.All(s.source.String())
	if f.Code != api.OK {
		return "", fault(f)
	}
	return counts("tokens", int64(len(list))), nil
}

func (s *script) print(given) (string, error) {
	l, f := tree.Parse(s.source.String())
	if f.Code != api.OK {
		return "", fault(f)
	}
	text, e := tree.Print(l)
	switch {
	case e != api.OK:
		return "", e
	case text == "":
		return "print", nil
	}
	return "print " + strings.TrimSuffix(text, "\n"), nil
}

func (s *script) openTree(g given) (string, error) {
	m, f := walk.New(s.source.String(), int(g.numbers[0]))
	if f.Code != api.OK {
		return "", fault(f)
	}
	s.machine, s.registers, s.things = m, nil, nil
	return done(api.OK)
}

func (s *script) openRegisters(g given) (string, error) {
	m, f := vm.New(s.source.String(), int(g.numbers[0]))
	if f.Code != api.OK {
		return "", fault(f)
	}
	s.machine, s.registers, s.things = m, m, nil
	return done(api.OK)
}

func (s *script) run(g given) (string, error) {
	end, e := s.machine.Run(g.name, g.values, g.numbers[0])
	if e != api.OK {
		return "", e
	}
	return s.ended(end), nil
}

// ended is what is told of a run's end.
func (s *script) ended(end api.End) string {
	var told strings.Builder
	for _, line := range end.Out {
		told.WriteString("> " + quote.Write(line) + "\n")
	}
	if end.Code == api.OK {
		told.WriteString("value " + s.valueOut(end.Value))
	} else {
		told.WriteString(fault{end.Code, end.At}.Error())
	}
	return told.String() + counts(" ticks", end.Ticks)
}

func (s *script) start(g given) (string, error) {
	return done(s.machine.Start(g.name, g.values, g.numbers[0]))
}

func (s *script) step(g given) (string, error) {
	for range g.numbers[0] {
		if !s.machine.Step() {
			break
		}
	}
	if end, has := s.machine.End(); has {
		return s.ended(end), nil
	}
	state, has := s.machine.State()
	if !has {
		return "state", nil
	}
	return standing(state), nil
}

// standing is what is told of how a run stands.
func standing(state api.State) string {
	var told strings.Builder
	told.WriteString(counts("state", state.Ticks, int64(state.Depth), int64(state.At), int64(state.Out)))
	for _, r := range state.Vars {
		told.WriteString(blank + seen(r))
	}
	return told.String()
}

func (s *script) global(g given) (string, error) { return s.value(s.machine.Global(g.name)) }

// value is what is told of a value that was asked for.
func (s *script) value(r api.Raw, e api.Errno) (string, error) {
	if e != api.OK {
		return "", e
	}
	return "value " + s.valueOut(r), nil
}

func (s *script) set(g given) (string, error) { return done(s.machine.SetGlobal(g.name, g.values[0])) }

func (s *script) peek(g given) (string, error) {
	return s.value(s.machine.Peek(int(g.numbers[0]), g.numbers[1]))
}

func (s *script) poke(g given) (string, error) {
	return done(s.machine.Poke(int(g.numbers[0]), g.numbers[1], g.values[0]))
}

func (s *script) release(g given) (string, error) {
	ref := int(g.numbers[0])
	e := s.machine.Release(ref)
	if e == api.OK {
		s.things.release(ref)
	}
	return done(e)
}

func (s *script) reach(given) (string, error) {
	return counts("reach", int64(s.machine.Reach())), nil
}

func (s *script) sites(given) (string, error) {
	var list []string
	for _, x := range s.registers.Sites() {
		list = append(list, counts("site", int64(x.At), int64(x.Form), x.Generic, x.Fast, int64(x.Fails)))
	}
	if len(list) == 0 {
		return counts("sites", 0), nil
	}
	return strings.Join(list, "\n"), nil
}

func (s *script) force(g given) (string, error) {
	return done(s.registers.Force(int(g.numbers[0]), int(g.numbers[1])))
}
