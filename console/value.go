package console

import (
	"strconv"
	"strings"

	"casket/api"
	"casket/numtext"
	"casket/quote"
)

// aThing is the Kind of a thing that comes in, as long as its own is not known.
const aThing = -1

const thingMark = "@"

var thingNames = [...]string{api.F64: "f64", api.F32: "f32", api.I16: "i16", api.U8: "u8", api.Row: "row"}

func isThing(kind int) bool { return kind >= api.F64 && kind <= api.Row }

// things are the Kinds of those that a machine has given numbers, by these: it gives them from 0 on, one by one, and each but once. Nil is in the place of one that was released.
type things []int

// meet is told of each thing that goes out, met before or not.
func (t *things) meet(r api.Raw) {
	if r.Ref == len(*t) {
		*t = append(*t, r.Kind)
	}
}

func (t things) release(ref int) { t[ref] = api.Nil }

// settle gives things that come in their Kinds; false: one of them is not held, as are none of the numbers that are too great to be given.
func (t things) settle(values []api.Raw) bool {
	for i, r := range values {
		if r.Kind != aThing {
			continue
		}
		if r.Ref >= len(t) || t[r.Ref] == api.Nil {
			return false
		}
		values[i].Kind = t[r.Ref]
	}
	return true
}

// valueIn is the value that a word is; false: it is none.
func valueIn(word string) (api.Raw, bool) {
	switch word {
	case "nil":
		return api.Raw{Kind: api.Nil}, true
	case "true":
		return api.Raw{Kind: api.Bool, Int: 1}, true
	case "false":
		return api.Raw{Kind: api.Bool}, true
	}
	if ref, is := strings.CutPrefix(word, thingMark); is {
		n, ok := number(ref)
		return api.Raw{Kind: aThing, Ref: int(n)}, ok
	}
	if text, size, is := quote.Read(word); is {
		return api.Raw{Kind: api.Text, Text: text}, size == len(word)
	}
	n, e := numtext.Parse(word)
	if n.Whole {
		return api.Raw{Kind: api.Int, Int: n.Int}, e == api.OK
	}
	return api.Raw{Kind: api.Float, Bits: n.Bits}, e == api.OK
}

// valueOut is what is told of a value that has gone out.
func (s *script) valueOut(r api.Raw) string {
	if !isThing(r.Kind) {
		return seen(r)
	}
	s.things.meet(r)
	return thingMark + strconv.Itoa(r.Ref) + ":" + seen(r)
}

// seen is what is told of a value, but for the number of a thing.
func seen(r api.Raw) string {
	switch r.Kind {
	case api.Nil:
		return "nil"
	case api.Bool:
		return strconv.FormatBool(r.Int == 1)
	case api.Int:
		return numtext.Text(api.Num{Whole: true, Int: r.Int})
	case api.Float:
		return numtext.Text(api.Num{Bits: r.Bits})
	case api.Text:
		return quote.Write(r.Text)
	}
	return thingNames[r.Kind] + ":" + strconv.Itoa(r.Len)
}
