package ops_test

import (
	"encoding/binary"
	"math"
	"math/big"
	"slices"
	"strconv"
	"strings"

	"casket/api"
	"casket/heap"
	"casket/numtext"
)

// What the chapter says of each call, worked out another way: by numbers of any length, by Go's own doubles, by the cells of a heap as a map.

// outcome is what a call must answer: an error, a word, or the word of a new cell.
type outcome struct {
	e    api.Errno
	word uint64
	made *api.Cell
}

func refused(e api.Errno) outcome { return outcome{e: e} }
func plain(w uint64) outcome      { return outcome{word: w} }
func made(c api.Cell) outcome     { return outcome{made: &c} }

func whole(i int64) outcome {
	if i >= -1<<47 && i < 1<<47 {
		return plain(smallWord(i))
	}
	return made(number(i))
}

func double(x float64) outcome { return plain(canonical(x)) }

func canonical(x float64) uint64 {
	if math.IsNaN(x) {
		return 0x7ff8000000000000
	}
	return math.Float64bits(x)
}

func str(s string) outcome {
	switch {
	case len(s) <= 5:
		return plain(shortWord(s))
	case len(s) > api.MaxBytes:
		return refused(api.ErrLong)
	}
	return made(textCell(s))
}

func truth(b bool) outcome {
	if b {
		return plain(trueWord)
	}
	return plain(falseWord)
}

// valueIn is the value of a word, with these cells.
func valueIn(all map[uint64]api.Cell, w uint64) (api.Value, api.Errno) {
	if x := math.Float64frombits(w); w == 0x7ff8000000000000 || !math.IsNaN(x) {
		return api.Value{Kind: api.Float, Bits: w}, api.OK
	}
	load := w & (1<<48 - 1)
	switch w >> 48 {
	case 0xfff8:
		if load == 0 {
			return api.Value{Kind: api.Nil}, api.OK
		}
		if load <= 2 {
			return api.Value{Kind: api.Bool, Int: int64(load) - 1}, api.OK
		}
	case 0xfff9:
		return api.Value{Kind: api.Int, Int: int64(load<<16) >> 16}, api.OK
	case 0xfffa:
		b := binary.LittleEndian.AppendUint64(nil, load)
		if n := int(b[5]); n <= 5 && shortWord(string(b[:n])) == w {
			return api.Value{Kind: api.Text, Text: string(b[:n])}, api.OK
		}
	case 0xfffb:
		c, there := all[w]
		switch {
		case !there:
			return api.Value{}, api.ErrHandle
		case c.Kind == api.Int:
			return api.Value{Kind: api.Int, Int: c.Int}, api.OK
		case c.Kind == api.Text:
			return api.Value{Kind: api.Text, Text: c.Text}, api.OK
		}
		return api.Value{Kind: c.Kind, Ref: w}, api.OK
	}
	return api.Value{}, api.ErrStray
}

// valuesIn are the values of words, or what is wrong with the first one that is none.
func valuesIn(all map[uint64]api.Cell, words ...uint64) ([]api.Value, api.Errno) {
	var list []api.Value
	for _, w := range words {
		v, e := valueIn(all, w)
		if e != api.OK {
			return nil, e
		}
		list = append(list, v)
	}
	return list, api.OK
}

func isNumber(v api.Value) bool { return v.Kind == api.Int || v.Kind == api.Float }

// asDouble is a number as a double.
func asDouble(v api.Value) float64 {
	if v.Kind == api.Int {
		return float64(v.Int)
	}
	return math.Float64frombits(v.Bits)
}

// unaryOf says what 10.2 says.
func unaryOf(all map[uint64]api.Cell, op string, a uint64) outcome {
	if !slices.Contains(unaries, op) {
		return refused(api.ErrArg)
	}
	v, e := valueIn(all, a)
	switch {
	case e != api.OK:
		return refused(e)
	case op == "not" && v.Kind == api.Bool:
		return truth(v.Int == 0)
	case op == "~" && v.Kind == api.Int:
		return whole(-1 - v.Int)
	case op == "-" && v.Kind == api.Int:
		return fitting(new(big.Int).Neg(big.NewInt(v.Int)))
	case op == "-" && v.Kind == api.Float:
		return double(math.Copysign(asDouble(v), map[bool]float64{true: 1, false: -1}[math.Signbit(asDouble(v))]))
	}
	return refused(api.ErrType)
}

// fitting is a whole number, if it has at most 64 bits.
func fitting(x *big.Int) outcome {
	if !x.IsInt64() {
		return refused(api.ErrOverflow)
	}
	return whole(x.Int64())
}

// binaryOf says what 10.3 says.
func binaryOf(all map[uint64]api.Cell, op string, a, b uint64) outcome {
	if !slices.Contains(binaries, op) {
		return refused(api.ErrArg)
	}
	v, e := valuesIn(all, a, b)
	if e != api.OK {
		return refused(e)
	}
	x, y := v[0], v[1]
	switch op {
	case "==", "!=":
		return truth(equal(x, y) == (op == "=="))
	case "<", "<=", ">", ">=":
		return orderOf(op, x, y)
	case "&", "|", "^", "<<", ">>":
		if x.Kind != api.Int || y.Kind != api.Int {
			return refused(api.ErrType)
		}
		return bitsOf(op, big.NewInt(x.Int), big.NewInt(y.Int))
	}
	switch {
	case op == "+" && x.Kind == api.Text && y.Kind == api.Text:
		return str(x.Text + y.Text)
	case x.Kind == api.Int && y.Kind == api.Int:
		return wholesOf(op, big.NewInt(x.Int), big.NewInt(y.Int))
	case isNumber(x) && isNumber(y):
		return doublesOf(op, asDouble(x), asDouble(y))
	}
	return refused(api.ErrType)
}

// exactOrder is -1, 0 or 1, by numbers of any length; false beside a NaN.
func exactOrder(x, y api.Value) (int, bool) {
	exact := func(v api.Value) *big.Float {
		switch {
		case v.Kind == api.Int:
			return new(big.Float).SetInt64(v.Int)
		case math.IsNaN(asDouble(v)):
			return nil
		}
		return new(big.Float).SetFloat64(asDouble(v))
	}
	p, q := exact(x), exact(y)
	if p == nil || q == nil {
		return 0, false
	}
	return p.Cmp(q), true
}

func equal(x, y api.Value) bool {
	if isNumber(x) && isNumber(y) {
		order, ok := exactOrder(x, y)
		return ok && order == 0
	}
	return x == y
}

func orderOf(op string, x, y api.Value) outcome {
	order, ok := strings.Compare(x.Text, y.Text), true
	switch {
	case isNumber(x) && isNumber(y):
		order, ok = exactOrder(x, y)
	case x.Kind != api.Text || y.Kind != api.Text:
		return refused(api.ErrType)
	}
	switch op {
	case "<":
		return truth(ok && order < 0)
	case "<=":
		return truth(ok && order <= 0)
	case ">":
		return truth(ok && order > 0)
	}
	return truth(ok && order >= 0)
}

func bitsOf(op string, x, y *big.Int) outcome {
	z := new(big.Int)
	switch op {
	case "&":
		return fitting(z.And(x, y))
	case "|":
		return fitting(z.Or(x, y))
	case "^":
		return fitting(z.Xor(x, y))
	}
	if y.Sign() < 0 || y.Cmp(big.NewInt(63)) > 0 {
		return refused(api.ErrShift)
	}
	if op == "<<" {
		return fitting(z.Lsh(x, uint(y.Int64())))
	}
	return fitting(z.Rsh(x, uint(y.Int64())))
}

func wholesOf(op string, x, y *big.Int) outcome {
	z := new(big.Int)
	switch op {
	case "+":
		return fitting(z.Add(x, y))
	case "-":
		return fitting(z.Sub(x, y))
	case "*":
		return fitting(z.Mul(x, y))
	case "/":
		return double(float64(x.Int64()) / float64(y.Int64()))
	}
	if y.Sign() == 0 {
		return refused(api.ErrDivZero)
	}
	quotient, rest := floorDiv(x, y)
	if op == "%" {
		return fitting(rest)
	}
	return fitting(quotient)
}

// floorDiv is the quotient rounded down, and what is left of x.
func floorDiv(x, y *big.Int) (quotient, rest *big.Int) {
	quotient, rest = new(big.Int).QuoRem(x, y, new(big.Int))
	if rest.Sign() != 0 && rest.Sign() != y.Sign() {
		quotient.Sub(quotient, big.NewInt(1))
		rest.Add(rest, y)
	}
	return quotient, rest
}

func doublesOf(op string, x, y float64) outcome {
	switch op {
	case "+":
		return double(x + y)
	case "-":
		return double(x - y)
	case "*":
		return double(x * y)
	case "/":
		return double(x / y)
	case "//":
		return double(math.Floor(x / y))
	}
	times := float64(y * math.Floor(x/y)) // each step is rounded
	return double(x - times)
}

// toldOf says what 10.5 says.
func toldOf(all map[uint64]api.Cell, w uint64) (string, api.Errno) {
	v, e := valueIn(all, w)
	if e != api.OK {
		return "", e
	}
	switch v.Kind {
	case api.Nil:
		return "nil", api.OK
	case api.Bool:
		return strconv.FormatBool(v.Int == 1), api.OK
	case api.Int:
		return big.NewInt(v.Int).String(), api.OK
	case api.Float:
		return doubleText(asDouble(v)), api.OK
	case api.Text:
		return v.Text, api.OK
	}
	return "", api.ErrType
}

// doubleText is Go's own hexadecimal form, but for the power, which has two digits there or more.
func doubleText(x float64) string {
	switch {
	case math.IsNaN(x):
		return "nan"
	case math.IsInf(x, 1):
		return "inf"
	case math.IsInf(x, -1):
		return "-inf"
	}
	s := strconv.FormatFloat(x, 'x', -1, 64)
	ahead, power, _ := strings.Cut(s, "p")
	if len(power) == 3 && power[1] == '0' {
		power = power[:1] + power[2:]
	}
	return ahead + "p" + power
}

// builtinOf says what 10.4 says; a store is done in all.
func builtinOf(room int, all map[uint64]api.Cell, name string, args []uint64) outcome {
	arity, known := arities[name]
	switch {
	case !known:
		return refused(api.ErrName)
	case len(args) != arity:
		return refused(api.ErrCount)
	}
	v, e := valuesIn(all, args...)
	if e != api.OK {
		return refused(e)
	}
	switch name {
	case "int", "float", "bits", "frombits", "chr", "num":
		return numberBuiltin(name, args[0], v[0])
	case "text", "len", "kind":
		return anyBuiltin(all, name, args[0], v[0])
	case "sub", "byte":
		return textBuiltin(name, v)
	case "view":
		return viewBuiltin(all, args[0], v)
	case "load", "store":
		return elementBuiltin(all, name, args, v)
	}
	return newBuiltin(room, name, v[0])
}

func numberBuiltin(name string, w uint64, v api.Value) outcome {
	switch {
	case name == "int" && v.Kind == api.Int, name == "float" && v.Kind == api.Float:
		return plain(w)
	case name == "int" && v.Kind == api.Float:
		x := math.Trunc(asDouble(v))
		if !(x >= -0x1p63 && x < 0x1p63) {
			return refused(api.ErrRange)
		}
		return whole(int64(x))
	case name == "float" && v.Kind == api.Int:
		return double(float64(v.Int))
	case name == "bits" && v.Kind == api.Float:
		return whole(int64(v.Bits))
	case name == "frombits" && v.Kind == api.Int:
		return double(math.Float64frombits(uint64(v.Int)))
	case name == "chr" && v.Kind == api.Int:
		if v.Int < 0 || v.Int > 255 {
			return refused(api.ErrRange)
		}
		return plain(shortWord(string([]byte{byte(v.Int)})))
	case name == "num" && v.Kind == api.Text:
		n, e := numtext.Parse(v.Text)
		switch {
		case e != api.OK:
			return refused(e)
		case n.Whole:
			return whole(n.Int)
		}
		return double(math.Float64frombits(n.Bits))
	}
	return refused(api.ErrType)
}

func anyBuiltin(all map[uint64]api.Cell, name string, w uint64, v api.Value) outcome {
	switch {
	case name == "kind":
		return plain(shortWord(called(v.Kind)))
	case name == "len" && v.Kind == api.Text:
		return whole(int64(len(v.Text)))
	case name == "len" && slices.Contains(things, v.Kind):
		return whole(int64(lenIn(all, w)))
	case name == "text" && v.Kind == api.Text:
		return plain(w)
	case name == "text":
		s, e := toldOf(all, w)
		if e != api.OK {
			return refused(e)
		}
		return str(s)
	}
	return refused(api.ErrType)
}

// textBuiltin is of sub and byte: what is wrong with the places goes ahead.
func textBuiltin(name string, v []api.Value) outcome {
	for _, i := range append(slices.Clone(v[1:]), v[1]) {
		if i.Kind != api.Int {
			return refused(api.ErrType)
		}
	}
	if v[0].Kind != api.Text {
		return refused(api.ErrType)
	}
	s, i := v[0].Text, v[1].Int
	n := int64(len(s))
	if name == "byte" {
		if i < 0 || i >= n {
			return refused(api.ErrIndex)
		}
		return whole(int64(s[i]))
	}
	j := v[2].Int
	if i < 0 || j < i || j > n {
		return refused(api.ErrIndex)
	}
	return str(s[i:j])
}

// exactNeed is 6.2's, without wrapping round.
func exactNeed(kind int, n int64) *big.Int {
	sum := new(big.Int).Mul(big.NewInt(n), big.NewInt(int64(width(kind))))
	sum.Add(sum, big.NewInt(7)).Div(sum, big.NewInt(8))
	return sum.Add(sum, big.NewInt(1))
}

func newBuiltin(room int, name string, v api.Value) outcome {
	kind := things[slices.IndexFunc(things, func(kind int) bool { return called(kind) == name })]
	switch {
	case v.Kind != api.Int:
		return refused(api.ErrType)
	case v.Int < 0:
		return refused(api.ErrRange)
	case exactNeed(kind, v.Int).Cmp(big.NewInt(int64(room))) > 0:
		return refused(api.ErrMemory)
	case kind == api.Row:
		return made(row(slices.Repeat([]uint64{nilWord}, int(v.Int))...))
	}
	return made(buffer(kind, make([]byte, int(v.Int)*width(kind))...))
}

func viewBuiltin(all map[uint64]api.Cell, w uint64, v []api.Value) outcome {
	if v[1].Kind != api.Text || v[2].Kind != api.Int || v[3].Kind != api.Int {
		return refused(api.ErrType)
	}
	at := slices.IndexFunc(buffers, func(kind int) bool { return called(kind) == v[1].Text })
	if at < 0 {
		return refused(api.ErrKind)
	}
	kind, from, n := buffers[at], v[2].Int, v[3].Int
	if !slices.Contains(buffers, v[0].Kind) {
		return refused(api.ErrType)
	}
	if from < 0 || n < 0 {
		return refused(api.ErrRange)
	}
	c, base := all[w], w
	if c.View {
		base = c.Base
	}
	wide, start := big.NewInt(int64(width(kind))), new(big.Int).Add(big.NewInt(int64(c.From)), big.NewInt(from))
	if new(big.Int).Mod(start, wide).Sign() != 0 {
		return refused(api.ErrAlign)
	}
	end := new(big.Int).Mul(big.NewInt(n), wide)
	if end.Add(end, big.NewInt(from)).Cmp(big.NewInt(int64(len(bytesIn(all, w))))) > 0 {
		return refused(api.ErrIndex)
	}
	return made(view(kind, base, int(start.Int64()), int(n)))
}

// bytesIn are those of a buffer or a view, where they stand in all.
func bytesIn(all map[uint64]api.Cell, w uint64) []byte {
	c := all[w]
	if c.View {
		return all[c.Base].Bytes[c.From : c.From+c.Len*width(c.Kind)]
	}
	return c.Bytes
}

func lenIn(all map[uint64]api.Cell, w uint64) int {
	if c := all[w]; c.Kind != api.Row {
		return len(bytesIn(all, w)) / width(c.Kind)
	}
	return len(all[w].Words)
}

func elementBuiltin(all map[uint64]api.Cell, name string, args []uint64, v []api.Value) outcome {
	switch {
	case v[1].Kind != api.Int:
		return refused(api.ErrType)
	case !slices.Contains(things, v[0].Kind):
		return refused(api.ErrType)
	case v[1].Int < 0 || v[1].Int >= int64(lenIn(all, args[0])):
		return refused(api.ErrIndex)
	case name == "load":
		return plain(loadIn(all, args[0], int(v[1].Int)))
	}
	if e := storeIn(all, args[0], int(v[1].Int), args[2], v[2]); e != api.OK {
		return refused(e)
	}
	return plain(nilWord)
}

func loadIn(all map[uint64]api.Cell, w uint64, i int) uint64 {
	c := all[w]
	if c.Kind == api.Row {
		return c.Words[i]
	}
	b := bytesIn(all, w)[i*width(c.Kind):]
	switch c.Kind {
	case api.F64:
		return canonical(math.Float64frombits(binary.LittleEndian.Uint64(b)))
	case api.F32:
		return canonical(float64(math.Float32frombits(binary.LittleEndian.Uint32(b))))
	case api.I16:
		return smallWord(int64(int16(binary.LittleEndian.Uint16(b))))
	}
	return smallWord(int64(b[0]))
}

// storeIn writes into all.
func storeIn(all map[uint64]api.Cell, w uint64, i int, x uint64, v api.Value) api.Errno {
	c := all[w]
	if c.Kind == api.Row {
		c.Words[i] = x
		return api.OK
	}
	b := bytesIn(all, w)[i*width(c.Kind):]
	switch {
	case !isNumber(v), width(c.Kind) <= 2 && v.Kind != api.Int:
		return api.ErrType
	case c.Kind == api.F64:
		binary.LittleEndian.PutUint64(b, canonical(asDouble(v)))
	case c.Kind == api.F32 && math.IsNaN(asDouble(v)):
		binary.LittleEndian.PutUint32(b, 0x7fc00000)
	case c.Kind == api.F32:
		binary.LittleEndian.PutUint32(b, math.Float32bits(float32(asDouble(v))))
	case c.Kind == api.I16 && (v.Int < -32768 || v.Int > 32767), c.Kind == api.U8 && (v.Int < 0 || v.Int > 255):
		return api.ErrRange
	case c.Kind == api.I16:
		binary.LittleEndian.PutUint16(b, uint16(v.Int))
	default:
		b[0] = byte(v.Int)
	}
	return api.OK
}

// needOf is how many units a value needs beside its word.
func needOf(v api.Value) int {
	switch {
	case v.Kind == api.Int && whole(v.Int).made != nil:
		return heap.Need(number(v.Int))
	case v.Kind == api.Text && len(v.Text) > 5:
		return heap.Need(textCell(v.Text))
	}
	return 0
}
