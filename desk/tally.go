package desk

import "casket/api"

// Tally is what a run has made so far: ticks, and lines told.
type Tally struct {
	fuel  int64
	at    int     // where it ticked last
	end   api.End // how it would end here
	bytes int     // of the lines told, with one more for each
}

func NewTally(fuel int64) Tally { return Tally{fuel: fuel} }

// Tick makes one more, at a place; false: there is no fuel for it, which ends the run.
func (t *Tally) Tick(at int) bool {
	if t.end.Ticks == t.fuel {
		t.Refuse(api.ErrFuel, at)
		return false
	}
	t.end.Ticks++
	t.at = at
	return true
}

// Tell makes a line one more, if there is room for it.
func (t *Tally) Tell(line string) api.Errno {
	if t.bytes+len(line)+1 > api.MaxOut {
		return api.ErrOut
	}
	t.bytes += len(line) + 1
	t.end.Out = append(t.end.Out, line)
	return api.OK
}

// Refuse ends the run, at a place.
func (t *Tally) Refuse(code api.Errno, at int) { t.end.Code, t.end.At = code, at }

// Made is how the run stands, but for what is of its functions.
func (t *Tally) Made() api.State {
	return api.State{Ticks: t.end.Ticks, At: t.at, Out: len(t.end.Out)}
}

// Ended is how the run ends, but for its value.
func (t *Tally) Ended() api.End { return t.end }
