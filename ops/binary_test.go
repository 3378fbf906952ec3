package ops_test

import (
	"math"
	"slices"
	"testing"

	"casket/api"
)

// Promise 10.3: Binary. The model looks at each answer, and at what the heap holds behind it.

// wholes are whole numbers at both ends of 64 bits, about 2^47, 2^53 and 2^62, and near 0.
var wholes = []int64{
	0, 1, -1, 2, -2, 3, 7, -7, 10, 62, 63, 64, 1 << 32, -1 << 32,
	1<<47 - 1, 1 << 47, -1 << 47, -1<<47 - 1, 1<<53 - 1, 1 << 53, 1<<53 + 1, -1 << 53, -1<<53 - 1, 1 << 62, -1 << 62, most - 1, most, least, least + 1,
}

// doubles are those that are no number, noughts, infinities, and numbers near whole ones.
var doubles = []float64{
	math.NaN(), 0, math.Copysign(0, -1), math.Inf(1), math.Inf(-1), 1, -1, 2, 0.5, -0.5, 0.1, 1.5, -7, 7, 63,
	0x1p47, 0x1p53 - 1, 0x1p53, 0x1p53 + 2, -0x1p53, 0x1p62, 0x1p63, -0x1p63, 0x1p63 - 1024, -0x1p63 - 2048, 0x1p64, 0x1p-1074, math.MaxFloat64,
}

// numberDesk has all of these, and some small ones in cells.
func numberDesk(t *testing.T) (*desk, []uint64) {
	t.Helper()
	d := newDesk(t, 60)
	var all []uint64
	for _, i := range wholes {
		all = append(all, d.whole(t, i))
	}
	for _, i := range []int64{0, -1, 7, 63} {
		all = append(all, d.put(t, number(i)))
	}
	for _, x := range doubles {
		all = append(all, canonical(x))
	}
	return d, all
}

// Each operator of each two numbers, whole ones beside doubles on either side: by numbers of any length, and by Go's doubles (W5).
func TestBinaryOfEachTwoNumbers(t *testing.T) {
	d, all := numberDesk(t)
	for _, op := range binaries {
		for _, a := range all {
			for _, b := range all {
				doBinary(t, d.h, op, a, b, d.keep...)
			}
		}
	}
}

func TestArithmetic(t *testing.T) {
	d := newDesk(t, 200)
	inf := math.Inf(1)
	for _, x := range []struct {
		op   string
		a, b any
		want any
	}{
		{"+", 1, 2, isInt(3)}, {"+", 1<<47 - 1, 1, isInt(1 << 47)}, {"+", 1 << 47, -1, isInt(1<<47 - 1)}, {"+", most, 1, api.ErrOverflow}, {"+", least, -1, api.ErrOverflow}, {"+", most, least, isInt(-1)}, {"+", most, 0, isInt(most)},
		{"+", 1, 0.5, isDouble(1.5)}, {"+", 0.5, 1, isDouble(1.5)}, {"+", 1<<53 + 1, 0.0, isDouble(0x1p53)}, {"+", 0.1, 0.2, isBits(0x3fd3333333333334)}, {"+", inf, -inf, isBits(api.Canon)}, {"+", math.NaN(), 1, isBits(api.Canon)}, {"+", 0.0, math.Copysign(0, -1), isBits(0)}, {"+", most, 1.0, isDouble(0x1p63)},
		{"-", 1, 2, isInt(-1)}, {"-", least, 1, api.ErrOverflow}, {"-", 0, least, api.ErrOverflow}, {"-", -1, least, isInt(most)}, {"-", -1 << 47, 1, isInt(-1<<47 - 1)}, {"-", 1, 0.25, isDouble(0.75)}, {"-", 0.25, 1, isDouble(-0.75)}, {"-", inf, inf, isBits(api.Canon)}, {"-", 0.0, 0.0, isBits(0)},
		{"*", 3, -4, isInt(-12)}, {"*", 1 << 32, 1 << 31, api.ErrOverflow}, {"*", 1 << 32, -1 << 31, isInt(least)}, {"*", least, -1, api.ErrOverflow}, {"*", -1, least, api.ErrOverflow}, {"*", 1 << 24, 1 << 23, isInt(1 << 47)}, {"*", 3, 0.5, isDouble(1.5)}, {"*", 0.5, 3, isDouble(1.5)}, {"*", 0, inf, isBits(api.Canon)}, {"*", 0, -1.0, isBits(1 << 63)}, {"*", least, 1.0, isDouble(-0x1p63)},
		{"/", 1, 2, isDouble(0.5)}, {"/", 4, 2, isDouble(2)}, {"/", 1, 0, isDouble(inf)}, {"/", -1, 0, isDouble(-inf)}, {"/", 0, 0, isBits(api.Canon)}, {"/", 1, math.Copysign(0, -1), isDouble(-inf)}, {"/", most, most, isDouble(1)}, {"/", 1<<53 + 1, 1, isDouble(0x1p53)}, {"/", 1.0, 4, isDouble(0.25)}, {"/", 1, 4.0, isDouble(0.25)}, {"/", inf, inf, isBits(api.Canon)},
		{"//", -7, 2, isInt(-4)}, {"//", 7, -2, isInt(-4)}, {"//", 7, 2, isInt(3)}, {"//", 1, 0, api.ErrDivZero}, {"//", 0, 0, api.ErrDivZero}, {"//", least, 0, api.ErrDivZero}, {"//", least, -1, api.ErrOverflow}, {"//", most, -1, isInt(-most)}, {"//", -7.0, 2, isDouble(-4)}, {"//", -7, 2.0, isDouble(-4)}, {"//", 1, 0.0, isDouble(inf)}, {"//", 1.0, 0, isDouble(inf)}, {"//", 0.0, 0, isBits(api.Canon)},
		{"%", -7, 2, isInt(1)}, {"%", 7, -2, isInt(-1)}, {"%", 7, 2, isInt(1)}, {"%", -7, -2, isInt(-1)}, {"%", 1, 0, api.ErrDivZero}, {"%", least, -1, isInt(0)}, {"%", least, most, isInt(most - 1)}, {"%", -7.0, 2, isDouble(1)}, {"%", 7, -2.0, isDouble(-1)}, {"%", 1.0, 0, isBits(api.Canon)}, {"%", 1, 0.0, isBits(api.Canon)},
	} {
		wantBinary(t, d.h, x.op, d.word(t, x.a), d.word(t, x.b), x.want, d.keep...)
	}
}

func TestBitwise(t *testing.T) {
	d := newDesk(t, 200)
	for _, x := range []struct {
		op   string
		a, b any
		want any
	}{
		{"&", 12, 10, isInt(8)}, {"&", -1, most, isInt(most)}, {"&", least, -1, isInt(least)}, {"&", least, most, isInt(0)}, {"&", 1 << 50, -1, isInt(1 << 50)}, {"&", 1<<50 + 3, 7, isInt(3)},
		{"|", 12, 10, isInt(14)}, {"|", least, most, isInt(-1)}, {"|", 1 << 62, 1, isInt(1<<62 + 1)}, {"|", 0, 0, isInt(0)},
		{"^", 12, 10, isInt(6)}, {"^", -1, 1 << 62, isInt(-1 - 1<<62)}, {"^", least, most, isInt(-1)}, {"^", most, most, isInt(0)}, {"^", least, -1, isInt(most)},
		{"<<", 1, -1, api.ErrShift}, {"<<", 1, 0, isInt(1)}, {"<<", 1, 46, isInt(1 << 46)}, {"<<", 1, 47, isInt(1 << 47)}, {"<<", 1, 62, isInt(1 << 62)}, {"<<", 1, 63, api.ErrOverflow}, {"<<", -1, 63, isInt(least)}, {"<<", 0, 63, isInt(0)}, {"<<", 1, 64, api.ErrShift}, {"<<", 0, 64, api.ErrShift}, {"<<", -1, 64, api.ErrShift},
		{"<<", most, 0, isInt(most)}, {"<<", most, 1, api.ErrOverflow}, {"<<", 1, most, api.ErrShift}, {"<<", 1, least, api.ErrShift}, {"<<", 1, 1 << 32, api.ErrShift}, {"<<", 1, 1 << 47, api.ErrShift}, {"<<", -3, 2, isInt(-12)},
		{">>", 1, -1, api.ErrShift}, {">>", 5, 0, isInt(5)}, {">>", 5, 1, isInt(2)}, {">>", -5, 1, isInt(-3)}, {">>", -1, 63, isInt(-1)}, {">>", most, 63, isInt(0)}, {">>", least, 63, isInt(-1)}, {">>", 1, 64, api.ErrShift}, {">>", 0, -1, api.ErrShift}, {">>", most, 15, isInt(1<<48 - 1)}, {">>", most, 16, isInt(1<<47 - 1)}, {">>", 1, 1<<32 + 1, api.ErrShift}, {">>", 1, least, api.ErrShift},
	} {
		wantBinary(t, d.h, x.op, d.word(t, x.a), d.word(t, x.b), x.want, d.keep...)
	}
	for _, op := range []string{"&", "|", "^", "<<", ">>"} {
		for _, x := range doubles {
			wantBinary(t, d.h, op, canonical(x), smallWord(1), api.ErrType)
			wantBinary(t, d.h, op, smallWord(1), canonical(x), api.ErrType)
			wantBinary(t, d.h, op, canonical(x), canonical(x), api.ErrType)
		}
		wantBinary(t, d.h, op, shortWord("1"), shortWord("1"), api.ErrType)
		wantBinary(t, d.h, op, trueWord, falseWord, api.ErrType)
		wantBinary(t, d.h, op, trueWord, trueWord, api.ErrType)
	}
}

// comparisons are the operators that tell how two stand to each other, by what they tell of less, the same, greater, and of a NaN.
var comparisons = []struct {
	op                               string
	less, same, greater, besideNoOne bool
}{
	{"<", true, false, false, false}, {"<=", true, true, false, false}, {">", false, false, true, false}, {">=", false, true, true, false},
	{"==", false, true, false, false}, {"!=", true, false, true, true},
}

// rising are numbers, each one greater than those ahead of it; those in one line are the same.
var rising = [][]any{
	{math.Inf(-1)}, {-math.MaxFloat64}, {-0x1p63 - 2048}, {least, -0x1p63}, {least + 1}, {-1<<53 - 1}, {-1 << 53, -0x1p53}, {-1<<47 - 1, -0x1p47 - 1}, {-7, -7.0}, {-0.5}, {-0x1p-1074},
	{0, 0.0, math.Copysign(0, -1)}, {0x1p-1074}, {0.5}, {1, 1.0}, {1.5}, {2, 2.0}, {1<<47 - 1, 0x1p47 - 1}, {1 << 47, 0x1p47}, {1<<53 - 1, 0x1p53 - 1}, {1 << 53, 0x1p53}, {1<<53 + 1}, {1<<53 + 2, 0x1p53 + 2}, {1<<53 + 3}, {1 << 62, 0x1p62}, {most - 1024}, {most - 1023, 0x1p63 - 1024}, {most}, {0x1p63}, {0x1p64}, {math.MaxFloat64}, {math.Inf(1)},
}

// Numbers are compared as the exact numbers that they are (W5).
func TestComparedNumbers(t *testing.T) {
	for i, one := range rising {
		for j, other := range rising {
			d := newDesk(t, 60)
			for _, x := range comparisons {
				want := map[bool]bool{true: x.less, false: x.greater}[i < j]
				if i == j {
					want = x.same
				}
				for _, a := range d.words(t, one...) {
					for _, b := range d.words(t, other...) {
						wantBinary(t, d.h, x.op, a, b, isTruth(want), d.keep...)
					}
				}
			}
		}
	}
}

func TestComparedWithNaN(t *testing.T) {
	for _, x := range comparisons {
		for _, other := range append(rising, []any{math.NaN()}) {
			d := newDesk(t, 10)
			for _, a := range d.words(t, other...) {
				wantBinary(t, d.h, x.op, a, api.Canon, isTruth(x.besideNoOne), d.keep...)
				wantBinary(t, d.h, x.op, api.Canon, a, isTruth(x.besideNoOne), d.keep...)
			}
		}
	}
}

// risingTexts are strings, each one greater than those ahead of it.
var risingTexts = []string{"", "\x00", "\x00\x00", "\x00a", "A", "a", "a\x00", "aa", "ab", "abcde", "abcde\x00", "abcdef", "abcdeg", "abcdf", "abd", "b", "hello", "hello!", "hello, all", "many bytes of text", "many bytes of text!", "\x7f", "\x80", "\xc3\xa9", "\xff", "\xff\x00", "\xff\xff\xff\xff\xff\xff"}

// Each string stands in a word, if it fits, and in a cell: what is told is the same.
func TestComparedTexts(t *testing.T) {
	d := newDesk(t, 120)
	var places [][]uint64
	for _, s := range risingTexts {
		all := []uint64{d.put(t, textCell(s)), d.put(t, textCell(s))}
		if len(s) <= 5 {
			all = append(all, shortWord(s))
		}
		places = append(places, all)
	}
	for _, x := range comparisons {
		for i, one := range places {
			for j, other := range places {
				want := map[bool]bool{true: x.less, false: x.greater}[i < j]
				if i == j {
					want = x.same
				}
				for k, a := range one {
					wantBinary(t, d.h, x.op, a, other[(k+1)%len(other)], isTruth(want))
				}
			}
		}
	}
}

// Strings put together: of up to five bytes a word, of more a cell.
func TestConcat(t *testing.T) {
	for _, x := range risingTexts {
		for _, y := range risingTexts {
			d := newDesk(t, 40)
			wantBinary(t, d.h, "+", d.text(t, x), d.text(t, y), isText(x+y), d.keep...)
			a, b := d.put(t, textCell(x)), d.put(t, textCell(y))
			wantBinary(t, d.h, "+", a, b, isText(x+y), d.keep...)
			wantBinary(t, d.h, "+", a, a, isText(x+x))
		}
	}
	h := newHeap(t, 10)
	if w := wantBinary(t, h, "+", shortWord("ab"), shortWord("cde"), isText("abcde")); w != 0xfffa056564636261 {
		t.Errorf("ab and cde are %x", w)
	}
	if w := wantBinary(t, h, "+", shortWord("abc"), shortWord("def"), isText("abcdef")); w>>48 != 0xfffb {
		t.Errorf("abc and def are %x", w)
	}
	if w := wantBinary(t, h, "+", shortWord(""), shortWord(""), isText("")); w != 0xfffa<<48 {
		t.Errorf("two empty strings are %x", w)
	}
}

// Strings are put together by + alone.
func TestOtherOperatorsOfTexts(t *testing.T) {
	d := newDesk(t, 20)
	all := d.words(t, "", "1", "ab", "hello!")
	for _, op := range []string{"-", "*", "/", "//", "%", "&", "|", "^", "<<", ">>"} {
		for _, a := range all {
			for _, b := range all {
				wantBinary(t, d.h, op, a, b, api.ErrType, d.keep...)
			}
		}
	}
}

// More bytes than a string may have are told ahead of memory.
func TestConcatTooLong(t *testing.T) {
	h := newHeap(t, api.MaxUnits)
	half := put(t, h, textCell(string(make([]byte, api.MaxBytes/2+1))))
	if w, e := doBinaryPlain(h, "+", half, half); w != 0 || e != api.ErrLong {
		t.Errorf("more than MaxBytes bytes are %x, %d", w, e)
	}
	h.Collect(nil)
	half = put(t, h, textCell(string(make([]byte, api.MaxBytes/2))))
	if w, e := doBinaryPlain(h, "+", half, half); w != 0 || e != api.ErrMemory {
		t.Errorf("MaxBytes bytes are %x, %d", w, e)
	}
}

// Values of unlike kinds are not the same; those of one kind by what they are.
func TestEqual(t *testing.T) {
	d := newDesk(t, 100)
	five, fiveAgain := d.put(t, number(5)), d.put(t, number(5))
	big, bigAgain := d.put(t, number(1<<60)), d.put(t, number(1<<60))
	r, other := d.put(t, row(nilWord)), d.put(t, row(nilWord))
	b, twin := d.put(t, buffer(api.U8, 1)), d.put(t, buffer(api.U8, 1))
	v, w := d.put(t, view(api.U8, b, 0, 1)), d.put(t, view(api.U8, b, 0, 1))
	for _, x := range []struct {
		a, b any
		same bool
	}{
		{nil, nil, true}, {nil, false, false}, {nil, 0, false}, {nil, "", false}, {nil, "nil", false}, {nil, 0.0, false}, {true, true, true}, {false, false, true}, {true, false, false}, {true, 1, false}, {false, 0, false}, {true, 1.0, false}, {true, "true", false},
		{1, 1, true}, {1, 2, false}, {1, 1.0, true}, {1, 1.5, false}, {1, "1", false}, {five, 5, true}, {five, fiveAgain, true}, {five, 5.0, true}, {five, 6, false}, {big, bigAgain, true}, {big, 0x1p60, true}, {big, "1152921504606846976", false},
		{0.0, math.Copysign(0, -1), true}, {0, math.Copysign(0, -1), true}, {math.NaN(), math.NaN(), false}, {math.NaN(), "nan", false}, {math.NaN(), nil, false}, {math.Inf(1), math.Inf(1), true}, {math.Inf(1), math.Inf(-1), false},
		{"", "", true}, {"ab", "ab", true}, {"ab", "abc", false}, {"hello!", "hello!", true}, {"hello!", "hello?", false}, {"0x1p+0", 1.0, false},
		{r, r, true}, {r, other, false}, {r, nil, false}, {b, b, true}, {b, twin, false}, {b, v, false}, {v, v, true}, {v, w, false}, {r, b, false}, {b, 1, false}, {v, "u8", false},
	} {
		p, q := d.word(t, x.a), d.word(t, x.b)
		wantBinary(t, d.h, "==", p, q, isTruth(x.same), d.keep...)
		wantBinary(t, d.h, "==", q, p, isTruth(x.same), d.keep...)
		wantBinary(t, d.h, "!=", p, q, isTruth(!x.same), d.keep...)
		wantBinary(t, d.h, "!=", q, p, isTruth(!x.same), d.keep...)
	}
}

// Each operator of each two kinds: numbers beside strings, truths, nil and things, on either side.
func TestBinaryOfEachTwoKinds(t *testing.T) {
	s := newSample(t)
	for _, a := range s.ofEachKind(t) {
		for _, b := range s.ofEachKind(t) {
			for _, op := range binaries {
				doBinary(t, s.h, op, a, b, s.keep...)
			}
		}
	}
}

// Numbers and strings aside, nothing but == and != takes anything.
func TestBinaryOfOtherKinds(t *testing.T) {
	s := newSample(t)
	for _, op := range binaries[:len(binaries)-2] {
		for _, a := range s.ofEachKind(t) {
			v, _ := valueIn(s.cells, a)
			if isNumber(v) || v.Kind == api.Text {
				continue
			}
			for _, b := range slices.Concat(s.ofEachKind(t), []uint64{nilWord, falseWord, trueWord, smallWord(0), api.Canon, shortWord("")}) {
				wantBinary(t, s.h, op, a, b, api.ErrType, s.keep...)
				wantBinary(t, s.h, op, b, a, api.ErrType, s.keep...)
			}
		}
	}
}

// A number beside a string is neither added nor compared, whatever the string says.
func TestNumbersBesideTexts(t *testing.T) {
	d := newDesk(t, 20)
	numbers, texts := d.words(t, 0, 1, 1<<50, 1.0, math.NaN()), d.words(t, "", "1", "0x1p+0")
	for _, op := range binaries[:len(binaries)-2] {
		for _, a := range numbers {
			for _, b := range texts {
				wantBinary(t, d.h, op, a, b, api.ErrType)
				wantBinary(t, d.h, op, b, a, api.ErrType)
			}
		}
	}
}

// What is no operator is told ahead of all else.
func TestNoBinary(t *testing.T) {
	s := newSample(t)
	for _, op := range noBinaries {
		for _, a := range s.ofEachKind(t) {
			wantBinary(t, s.h, op, a, a, api.ErrArg)
			wantBinary(t, s.h, op, a, strays[0], api.ErrArg)
		}
		for _, x := range s.bads() {
			wantBinary(t, s.h, op, x.w, x.w, api.ErrArg)
			wantBinary(t, s.h, op, nilWord, x.w, api.ErrArg)
			wantBinary(t, s.h, op, x.w, smallWord(1), api.ErrArg)
		}
	}
	for _, name := range names() {
		wantBinary(t, s.h, name, smallWord(1), smallWord(1), api.ErrArg)
	}
}
