package ops_test

import (
	"math"
	"slices"
	"testing"

	"casket/api"
)

// Promises 10.4 and 10.5: the built-in functions of strings, text and kind; Told.

// tellings are values, and what is told of them.
var tellings = []struct {
	x    any
	want string
}{
	{nil, "nil"}, {true, "true"}, {false, "false"}, {0, "0"}, {-7, "-7"}, {99999, "99999"}, {100000, "100000"}, {-9999, "-9999"}, {-10000, "-10000"}, {1<<47 - 1, "140737488355327"}, {1 << 47, "140737488355328"}, {1<<53 + 1, "9007199254740993"}, {most, "9223372036854775807"}, {least, "-9223372036854775808"},
	{2.5, "0x1.4p+1"}, {1.0, "0x1p+0"}, {-0.5, "-0x1p-1"}, {0.0, "0x0p+0"}, {math.Copysign(0, -1), "-0x0p+0"}, {math.NaN(), "nan"}, {math.Inf(1), "inf"}, {math.Inf(-1), "-inf"}, {0x1p-1074, "0x1p-1074"}, {math.MaxFloat64, "0x1.fffffffffffffp+1023"}, {0.1, "0x1.999999999999ap-4"}, {0x1p53, "0x1p+53"}, {-0x1p63, "-0x1p+63"},
	{"", ""}, {"a", "a"}, {"nil", "nil"}, {"hello", "hello"}, {"hello!", "hello!"}, {"a b\n\x00\xff", "a b\n\x00\xff"}, {"many bytes of text", "many bytes of text"},
}

func TestTold(t *testing.T) {
	for _, x := range tellings {
		d := newDesk(t, 10)
		wantTold(t, d.h, d.word(t, x.x), x.want, api.OK)
	}
	h := newHeap(t, 10)
	for want, i := range map[string]int64{"0": 0, "5": 5, "-1": -1} {
		wantTold(t, h, put(t, h, number(i)), want, api.OK)
	}
	wantTold(t, h, put(t, h, textCell("")), "", api.OK)
	wantTold(t, h, put(t, h, textCell("ab")), "ab", api.OK)
}

// Of each word and each sort of cell; of things ErrType.
func TestToldOfEachWord(t *testing.T) {
	s := newSample(t)
	for _, w := range s.all() {
		v, _ := valueIn(s.cells, w)
		if _, e := doTold(t, s.h, w); slices.Contains(things, v.Kind) != (e == api.ErrType) {
			t.Errorf("Told of a value of the kind %d is %d", v.Kind, e)
		}
	}
	for _, x := range s.bads() {
		wantTold(t, s.h, x.w, "", x.e)
	}
}

func TestText(t *testing.T) {
	for _, x := range tellings {
		d := newDesk(t, 20)
		w := d.word(t, x.x)
		got := wantBuiltin(t, d.h, "text", args(w), isText(x.want), d.keep...)
		if (got>>48 == 0xfffa) != (len(x.want) <= 5) {
			t.Errorf("text of %v is %x", x.x, got)
		}
	}
	s := newSample(t)
	for _, w := range s.all() {
		doBuiltin(t, s.h, "text", args(w), s.keep...)
	}
	for _, kind := range buffers {
		base := s.find(t, buffer(kind, counted(16)...))
		wantBuiltin(t, s.h, "text", args(base), api.ErrType)
		wantBuiltin(t, s.h, "text", args(s.find(t, view(kind, base, 8, 1))), api.ErrType)
	}
	wantBuiltin(t, s.h, "text", args(s.find(t, row())), api.ErrType)
}

// A string is itself: the word that was handed in. No unit is asked for.
func TestTextOfItself(t *testing.T) {
	for _, x := range []string{"", "ab", "hello", "hello!", "many bytes of text"} {
		c := textCell(x)
		h := newHeap(t, 4)
		w := put(t, h, c)
		if got := wantBuiltin(t, h, "text", args(w), isText(x)); got != w {
			t.Errorf("text of %x is %x", w, got)
		}
	}
}

func TestLenOfTexts(t *testing.T) {
	wantEach(t, "len", []answered{
		{"", isInt(0)}, {"a", isInt(1)}, {"hello", isInt(5)}, {"hello!", isInt(6)}, {"\x00\x00", isInt(2)}, {"\xc3\xa9", isInt(2)}, {"many bytes of text", isInt(18)},
		{nil, api.ErrType}, {true, api.ErrType}, {false, api.ErrType}, {0, api.ErrType}, {5, api.ErrType}, {1 << 50, api.ErrType}, {0.0, api.ErrType}, {1.5, api.ErrType}, {math.NaN(), api.ErrType},
	})
	h := newHeap(t, 20)
	for _, s := range risingTexts {
		wantBuiltin(t, h, "len", args(put(t, h, textCell(s))), isInt(int64(len(s))))
	}
}

// places are those about a string, and far from it.
func places(n int) []int {
	return []int{least, least + 1, -1 << 47, -1 << 32, -256, -2, -1, 0, 1, 2, n - 1, n, n + 1, 255, 256, 1 << 31, 1 << 32, 1<<32 + 1, 1<<47 - 1, 1 << 47, 1 << 62, most - 1, most}
}

func TestByte(t *testing.T) {
	for _, s := range []string{"", "a", "ab", "hello", "hello!", "\x00\xff\x80", "many bytes of text"} {
		for _, inCell := range []bool{false, true} {
			for _, i := range places(len(s)) {
				d := newDesk(t, 20)
				w := d.text(t, s)
				if inCell {
					w = d.put(t, textCell(s))
				}
				var want any = api.ErrIndex
				if i >= 0 && i < len(s) {
					want = isInt(int64(s[i]))
				}
				wantBuiltin(t, d.h, "byte", args(w, d.whole(t, int64(i))), want, d.keep...)
				wantBuiltin(t, d.h, "byte", args(w, d.put(t, number(int64(i)))), want, d.keep...)
			}
		}
	}
}

// What is wrong with the place is told ahead of what is wrong with the string; both are ErrType, and ahead of ErrIndex.
func TestByteOfOtherKinds(t *testing.T) {
	s := newSample(t)
	for _, w := range s.ofEachKind(t) {
		v, _ := valueIn(s.cells, w)
		if v.Kind != api.Int {
			wantBuiltin(t, s.h, "byte", args(shortWord("ab"), w), api.ErrType)
			wantBuiltin(t, s.h, "byte", args(nilWord, w), api.ErrType)
		}
		if v.Kind != api.Text {
			wantBuiltin(t, s.h, "byte", args(w, smallWord(0)), api.ErrType)
			wantBuiltin(t, s.h, "byte", args(w, smallWord(-1)), api.ErrType)
			wantBuiltin(t, s.h, "byte", args(w, nilWord), api.ErrType)
		}
	}
}

func TestSub(t *testing.T) {
	for _, x := range []struct {
		s    string
		i, j int
		want any
	}{
		{"abcdef", 1, 3, isText("bc")}, {"abcdef", 0, 6, isText("abcdef")}, {"abcdef", 0, 5, isText("abcde")}, {"abcdef", 1, 6, isText("bcdef")}, {"abcdef", 6, 6, isText("")}, {"abcdef", 0, 0, isText("")}, {"abcdef", 3, 3, isText("")}, {"ab", 1, 2, isText("b")}, {"", 0, 0, isText("")},
		{"ab", 1, 3, api.ErrIndex}, {"ab", 2, 1, api.ErrIndex}, {"ab", -1, 1, api.ErrIndex}, {"ab", 3, 3, api.ErrIndex}, {"", 0, 1, api.ErrIndex}, {"", 1, 1, api.ErrIndex}, {"ab", 0, -1, api.ErrIndex}, {"ab", -2, -1, api.ErrIndex},
		{"many bytes of text", 5, 13, isText("bytes of")}, {"many bytes of text", 5, 10, isText("bytes")}, {"a\x00\xffb", 1, 3, isText("\x00\xff")},
	} {
		d := newDesk(t, 20)
		wantBuiltin(t, d.h, "sub", d.words(t, x.s, x.i, x.j), x.want, d.keep...)
		cells := args(d.put(t, textCell(x.s)), d.put(t, number(int64(x.i))), d.put(t, number(int64(x.j))))
		wantBuiltin(t, d.h, "sub", cells, x.want)
	}
}

func TestSubOfEachTwoPlaces(t *testing.T) {
	for _, s := range []string{"", "ab", "hello", "hello!", "many bytes"} {
		for _, i := range places(len(s)) {
			for _, j := range places(len(s)) {
				d := newDesk(t, 12)
				doBuiltin(t, d.h, "sub", d.words(t, s, i, j), d.keep...)
			}
		}
	}
}

// Of each three kinds.
func TestSubOfOtherKinds(t *testing.T) {
	s := newSample(t)
	few := []uint64{nilWord, trueWord, smallWord(0), smallWord(1), doubleWord(1), shortWord("ab"), s.find(t, number(5)), s.find(t, textCell("hello!")), s.find(t, buffer(api.U8, counted(16)...)), s.find(t, row())}
	for _, a := range few {
		for _, b := range few {
			for _, c := range few {
				doBuiltin(t, s.h, "sub", args(a, b, c), s.keep...)
			}
		}
	}
	wantBuiltin(t, s.h, "sub", args(nilWord, smallWord(0), smallWord(0)), api.ErrType)
	wantBuiltin(t, s.h, "sub", args(shortWord("ab"), doubleWord(0), smallWord(1)), api.ErrType)
	wantBuiltin(t, s.h, "sub", args(shortWord("ab"), smallWord(9), doubleWord(1)), api.ErrType)
	wantBuiltin(t, s.h, "sub", args(shortWord("ab"), smallWord(9), shortWord("1")), api.ErrType)
}

// What is put together is parted again (8.4).
func TestConcatAndSub(t *testing.T) {
	for _, x := range []string{"", "a", "abc", "hello", "hello!", "many bytes of text"} {
		for _, y := range []string{"", "b", "def", "world", "world!", "\x00\xff and more"} {
			d := newDesk(t, 60)
			w := wantBinary(t, d.h, "+", d.text(t, x), d.text(t, y), isText(x+y), d.keep...)
			d.keep = append(d.keep, w)
			n, all := smallWord(int64(len(x))), smallWord(int64(len(x)+len(y)))
			wantBuiltin(t, d.h, "len", args(w), isInt(int64(len(x)+len(y))))
			first := wantBuiltin(t, d.h, "sub", args(w, smallWord(0), n), isText(x), d.keep...)
			wantBinary(t, d.h, "==", first, d.text(t, x), isTruth(true), d.keep...)
			wantBuiltin(t, d.h, "sub", args(w, n, all), isText(y), d.keep...)
		}
	}
}

func TestKind(t *testing.T) {
	s := newSample(t)
	for _, w := range s.all() {
		v, _ := valueIn(s.cells, w)
		wantBuiltin(t, s.h, "kind", args(w), isText(called(v.Kind)))
	}
	wantEach(t, "kind", []answered{{nil, isText("nil")}, {true, isText("bool")}, {false, isText("bool")}, {1, isText("int")}, {1 << 60, isText("int")}, {1.0, isText("float")}, {math.NaN(), isText("float")}, {"", isText("text")}, {"hello!", isText("text")}})
	for kind, want := range map[int]string{api.F64: "f64", api.F32: "f32", api.I16: "i16", api.U8: "u8"} {
		base := s.find(t, buffer(kind, counted(16)...))
		wantBuiltin(t, s.h, "kind", args(base), isText(want))
		wantBuiltin(t, s.h, "kind", args(s.find(t, view(kind, base, 8, 1))), isText(want))
		other := s.find(t, buffer(api.U8+api.F64-kind, counted(16)...))
		wantBuiltin(t, s.h, "kind", args(s.find(t, view(kind, other, 8, 1))), isText(want))
	}
	wantBuiltin(t, s.h, "kind", args(s.find(t, row())), isText("row"))
}
