package ops

import (
	"math"

	"casket/api"
	"casket/buf"
	"casket/numtext"
	"casket/soft"
	"casket/text"
	"casket/word"
)

// builtin is a built-in function, and how many arguments it has.
type builtin struct {
	arity int
	do    job
}

// builtins are the built-in functions by their names.
func builtins() map[string]builtin {
	return map[string]builtin{
		"int":      {1, call.toInt},
		"float":    {1, call.toFloat},
		"text":     {1, call.toText},
		"num":      {1, call.toNumber},
		"len":      {1, call.length},
		"sub":      {3, call.part},
		"byte":     {2, call.byteAt},
		"chr":      {1, call.character},
		"bits":     {1, call.pattern},
		"frombits": {1, call.fromPattern},
		"f64":      {1, makes(api.F64)},
		"f32":      {1, makes(api.F32)},
		"i16":      {1, makes(api.I16)},
		"u8":       {1, makes(api.U8)},
		"row":      {1, makes(api.Row)},
		"view":     {4, call.view},
		"load":     {2, call.load},
		"store":    {3, call.store},
		"kind":     {1, call.kind},
	}
}

// toInt leaves a whole number where it stands: it needs no cell but its own.
func (c call) toInt() (uint64, api.Errno) {
	v := c.values[0]
	switch v.Kind {
	case api.Int:
		return c.words[0], api.OK
	case api.Float:
		i, e := soft.Trunc(v.Bits)
		if e != api.OK {
			return 0, e
		}
		return c.boxInt(i)
	}
	return 0, api.ErrType
}

func (c call) toFloat() (uint64, api.Errno) {
	v := c.values[0]
	switch v.Kind {
	case api.Int:
		return word.FromFloat(soft.FromInt(v.Int)), api.OK
	case api.Float:
		return c.words[0], api.OK
	}
	return 0, api.ErrType
}

// toText leaves a string where it stands, as toInt does a number.
func (c call) toText() (uint64, api.Errno) {
	if c.are(api.Text, 0) {
		return c.words[0], api.OK
	}
	s, e := told(c.values[0])
	if e != api.OK {
		return 0, e
	}
	return c.boxText(s)
}

func (c call) toNumber() (uint64, api.Errno) {
	if !c.are(api.Text, 0) {
		return 0, api.ErrType
	}
	n, e := numtext.Parse(c.values[0].Text)
	if e != api.OK {
		return 0, e
	}
	return c.boxNumber(n)
}

// length asks buf of all that is no string: what is no thing either is refused there.
func (c call) length() (uint64, api.Errno) {
	ask := buf.Len
	if c.are(api.Text, 0) {
		ask = text.Len
	}
	n, e := ask(c.h, c.words[0])
	if e != api.OK {
		return 0, e
	}
	return c.boxInt(int64(n))
}

func (c call) part() (uint64, api.Errno) {
	if !c.are(api.Int, 1, 2) {
		return 0, api.ErrType
	}
	return text.Sub(c.h, c.words[0], c.values[1].Int, c.values[2].Int, c.roots)
}

func (c call) byteAt() (uint64, api.Errno) {
	if !c.are(api.Int, 1) {
		return 0, api.ErrType
	}
	b, e := text.Byte(c.h, c.words[0], c.values[1].Int)
	if e != api.OK {
		return 0, e
	}
	return c.boxInt(int64(b))
}

func (c call) character() (uint64, api.Errno) {
	if !c.are(api.Int, 0) {
		return 0, api.ErrType
	}
	i := c.values[0].Int
	if i < 0 || i > math.MaxUint8 {
		return 0, api.ErrRange
	}
	return c.boxText(string([]byte{byte(i)})) // of the number itself it would be its rune, of two bytes from 128 on
}

func (c call) pattern() (uint64, api.Errno) {
	if !c.are(api.Float, 0) {
		return 0, api.ErrType
	}
	return c.boxInt(int64(c.values[0].Bits))
}

func (c call) fromPattern() (uint64, api.Errno) {
	if !c.are(api.Int, 0) {
		return 0, api.ErrType
	}
	return word.FromFloat(uint64(c.values[0].Int)), api.OK
}

// makes is the job of a function that makes things of a kind.
func makes(kind int) job {
	return func(c call) (uint64, api.Errno) {
		if !c.are(api.Int, 0) {
			return 0, api.ErrType
		}
		return buf.New(c.h, kind, c.values[0].Int, c.roots)
	}
}

func (c call) view() (uint64, api.Errno) {
	if !c.are(api.Text, 1) || !c.are(api.Int, 2, 3) {
		return 0, api.ErrType
	}
	kind, known := bufferKind(c.values[1].Text)
	if !known {
		return 0, api.ErrKind // ahead of what View says of the first argument
	}
	return buf.View(c.h, c.words[0], kind, c.values[2].Int, c.values[3].Int, c.roots)
}

func (c call) load() (uint64, api.Errno) {
	if !c.are(api.Int, 1) {
		return 0, api.ErrType
	}
	return buf.Load(c.h, c.words[0], c.values[1].Int)
}

func (c call) store() (uint64, api.Errno) {
	if !c.are(api.Int, 1) {
		return 0, api.ErrType
	}
	if e := buf.Store(c.h, c.words[0], c.values[1].Int, c.words[2]); e != api.OK {
		return 0, e
	}
	return word.FromNil(), api.OK
}

func (c call) kind() (uint64, api.Errno) {
	return c.boxText(kindNames[c.values[0].Kind])
}

// kindNames are what the kinds of values are called.
var kindNames = [...]string{
	api.Nil: "nil", api.Bool: "bool", api.Int: "int", api.Float: "float", api.Text: "text",
	api.F64: "f64", api.F32: "f32", api.I16: "i16", api.U8: "u8", api.Row: "row",
}

// bufferKind is the kind of buffers, and of views, that is called so.
func bufferKind(name string) (int, bool) {
	for kind, called := range kindNames {
		if called == name && buf.Width(kind) > 0 {
			return kind, true
		}
	}
	return 0, false
}
