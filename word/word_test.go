package word_test

import (
	"fmt"
	"math"
	"strings"
	"testing"

	"casket/api"
	"casket/word"
)

// 1.1: a word is tagged just if its 13 highest bits are set: with a handle's tag and load below other heads there is no handle.
func TestTagged(t *testing.T) {
	const low = uint64(3)<<48 | 0x123456789abc
	for head := range uint64(1 << 13) {
		h, ok := word.ToHandle(head<<51 | low)
		if tagged := head == 1<<13-1; ok != tagged || tagged && h != 0x123456789abc || !tagged && h != 0 {
			t.Fatalf("ToHandle with the head %013b: %x, %v", head, h, ok)
		}
	}
}

// 1.1: no tagged word is a double.
func TestTaggedIsNoDouble(t *testing.T) {
	for tag := range uint64(8) {
		for _, load := range edgeLoads() {
			w := tagged(tag, load)
			if !math.IsNaN(math.Float64frombits(w)) || word.Class(w) == api.ClassDouble {
				t.Errorf("%016x is a double", w)
			}
		}
	}
}

// 1.2: doubles are all that is no NaN, and Canon.
func TestClassDouble(t *testing.T) {
	for _, w := range []uint64{
		0, 1 << 63, 1, 1<<63 | 1, 0x000fffffffffffff, 0x0010000000000000,
		0x3ff0000000000000, 0xbff0000000000000, 0x7fefffffffffffff, 0xffefffffffffffff,
		0x7ff0000000000000, 0xfff0000000000000, api.Canon,
	} {
		wantClass(t, w, api.ClassDouble)
	}
}

// 1.2: other NaNs that are not tagged are stray.
func TestClassOfNaNs(t *testing.T) {
	for _, w := range []uint64{
		0x7ff0000000000001, 0x7ff7ffffffffffff, api.Canon + 1, api.Canon - 1,
		0x7ff9000000000000, 0x7ffb000000000007, 0x7fffffffffffffff,
		0xfff0000000000001, 0xfff7ffffffffffff,
	} {
		wantClass(t, w, api.ClassStray)
	}
}

// 1.2: each tag with loads that are right and loads that are not.
func TestClassTagged(t *testing.T) {
	wantClass(t, tagged(0, 0), api.ClassNil)
	wantClass(t, tagged(0, 1), api.ClassBool)
	wantClass(t, tagged(0, 2), api.ClassBool)
	for _, load := range []uint64{3, 4, 1 << 8, 1<<8 | 1, 1 << 47, 1<<47 | 2, 1<<48 - 1} {
		wantClass(t, tagged(0, load), api.ClassStray)
	}
	for _, load := range edgeLoads() {
		wantClass(t, tagged(1, load), api.ClassInt)
		wantClass(t, tagged(3, load), api.ClassHandle)
		for tag := uint64(4); tag < 8; tag++ {
			wantClass(t, tagged(tag, load), api.ClassStray)
		}
	}
}

// 1.2: of the tag 2, each length, and each bit behind the string's end.
func TestClassText(t *testing.T) {
	for n := range uint64(256) {
		want := api.ClassStray
		if n <= 5 {
			want = api.ClassText
		}
		wantClass(t, tagged(2, n<<40), want)
	}
	for n := range 6 {
		for bit := range 40 {
			want := api.ClassText
			if bit >= 8*n {
				want = api.ClassStray
			}
			wantClass(t, tagged(2, uint64(n)<<40|1<<bit), want)
		}
	}
	wantClass(t, tagged(2, 5<<40|0xffffffffff), api.ClassText)
	wantClass(t, tagged(2, 4<<40|0xffffffff), api.ClassText)
	wantClass(t, tagged(2, 6<<40|0xffffffffff), api.ClassStray)
}

// 1.3: doubles stay, NaNs become Canon.
func TestFromFloat(t *testing.T) {
	for _, bits := range []uint64{
		0, 1 << 63, 1, 0x3ff8000000000000, 0xc000000000000000,
		0x7fefffffffffffff, 0xffefffffffffffff, 0x7ff0000000000000, 0xfff0000000000000,
	} {
		if got := word.FromFloat(bits); got != bits {
			t.Errorf("FromFloat(%016x): %016x", bits, got)
		}
	}
	for _, bits := range []uint64{
		api.Canon, api.Canon + 1, api.Canon - 1, 0x7ff0000000000001, 0x7fffffffffffffff,
		0xfff0000000000001, 0xfff8000000000000, 0xfff8000000000001, 0xfff9000000000005,
		0xfffa000000000000, 0xfffb000000000007, 0xffffffffffffffff,
	} {
		if got := word.FromFloat(bits); got != api.Canon {
			t.Errorf("FromFloat(%016x): %016x", bits, got)
		}
	}
}

// 1.3: small numbers alone have a word.
func TestFromInt(t *testing.T) {
	for _, x := range []struct {
		i    int64
		want uint64
		ok   bool
	}{
		{0, 0xfff9000000000000, true},
		{5, 0xfff9000000000005, true},
		{-1, 0xfff9ffffffffffff, true},
		{-2, 0xfff9fffffffffffe, true},
		{1<<47 - 1, 0xfff97fffffffffff, true},
		{-1 << 47, 0xfff9800000000000, true},
		{1 << 47, 0, false},
		{-1<<47 - 1, 0, false},
		{1 << 48, 0, false},
		{-1 << 48, 0, false},
		{math.MaxInt64, 0, false},
		{math.MinInt64, 0, false},
	} {
		if w, ok := word.FromInt(x.i); w != x.want || ok != x.ok {
			t.Errorf("FromInt(%d): %016x, %v", x.i, w, ok)
		}
	}
}

// 1.3: strings of at most five bytes alone have a word, whatever their bytes are.
func TestFromText(t *testing.T) {
	for _, x := range []struct {
		s    string
		want uint64
		ok   bool
	}{
		{"", 0xfffa000000000000, true},
		{"a", 0xfffa010000000061, true},
		{"\x00", 0xfffa010000000000, true},
		{"\x00\x00", 0xfffa020000000000, true},
		{"\x00\xff", 0xfffa02000000ff00, true},
		{"hello", 0xfffa056f6c6c6568, true},
		{"\x00\x00\x00\x00\x00", 0xfffa050000000000, true},
		{"\xff\xff\xff\xff\xff", 0xfffa05ffffffffff, true},
		{"\xff\x00\xff\x00\xff", 0xfffa05ff00ff00ff, true},
		{"\u20ac", 0xfffa030000ac82e2, true},
		{"hello!", 0, false},
		{"\x00\x00\x00\x00\x00\x00", 0, false},
		{strings.Repeat("x", 256), 0, false},
		{strings.Repeat("\xff", 1<<16), 0, false},
	} {
		if w, ok := word.FromText(x.s); w != x.want || ok != x.ok {
			t.Errorf("FromText(%q): %016x, %v", x.s, w, ok)
		}
	}
}

// 1.3: handles below 2^48 alone have a word.
func TestFromHandle(t *testing.T) {
	for _, x := range []struct {
		h, want uint64
		ok      bool
	}{
		{0, 0xfffb000000000000, true},
		{7, 0xfffb000000000007, true},
		{1<<47 + 1, 0xfffb800000000001, true},
		{1<<48 - 1, 0xfffbffffffffffff, true},
		{1 << 48, 0, false},
		{1<<48 + 7, 0, false},
		{math.MaxUint64, 0, false},
	} {
		if w, ok := word.FromHandle(x.h); w != x.want || ok != x.ok {
			t.Errorf("FromHandle(%x): %016x, %v", x.h, w, ok)
		}
	}
}

// 1.3: what To answers of words that are right.
func TestTo(t *testing.T) {
	if i, ok := word.ToInt(0xfff9800000000000); i != -1<<47 || !ok {
		t.Errorf("ToInt: %d, %v", i, ok)
	}
	if i, ok := word.ToInt(0xfff97fffffffffff); i != 1<<47-1 || !ok {
		t.Errorf("ToInt: %d, %v", i, ok)
	}
	if b, ok := word.ToBool(0xfff8000000000001); b || !ok {
		t.Errorf("ToBool of false: %v, %v", b, ok)
	}
	if b, ok := word.ToBool(0xfff8000000000002); !b || !ok {
		t.Errorf("ToBool of true: %v, %v", b, ok)
	}
	if s, ok := word.ToText(0xfffa05ff00ff0061); s != "a\x00\xff\x00\xff" || !ok {
		t.Errorf("ToText: %q, %v", s, ok)
	}
	if s, ok := word.ToText(0xfffa000000000000); s != "" || !ok {
		t.Errorf("ToText of no bytes: %q, %v", s, ok)
	}
	if h, ok := word.ToHandle(0xfffbffffffffffff); h != 1<<48-1 || !ok {
		t.Errorf("ToHandle: %x, %v", h, ok)
	}
}

// 1.4: what was put in comes out, and has its class.
func TestToOfFrom(t *testing.T) {
	for _, i := range []int64{0, 1, -1, 1 << 40, -1 << 40, 1<<47 - 1, 1<<47 - 2, -1 << 47, -1<<47 + 1} {
		w, _ := word.FromInt(i)
		wantClass(t, w, api.ClassInt)
		if got, ok := word.ToInt(w); got != i || !ok {
			t.Errorf("ToInt(FromInt(%d)): %d, %v", i, got, ok)
		}
	}
	for _, b := range []bool{false, true} {
		w := word.FromBool(b)
		wantClass(t, w, api.ClassBool)
		if got, ok := word.ToBool(w); got != b || !ok {
			t.Errorf("ToBool(FromBool(%v)): %v, %v", b, got, ok)
		}
	}
	for _, s := range shortTexts() {
		w, _ := word.FromText(s)
		wantClass(t, w, api.ClassText)
		if got, ok := word.ToText(w); got != s || !ok {
			t.Errorf("ToText(FromText(%q)): %q, %v", s, got, ok)
		}
	}
	for _, h := range edgeLoads() {
		w, _ := word.FromHandle(h)
		wantClass(t, w, api.ClassHandle)
		if got, ok := word.ToHandle(w); got != h || !ok {
			t.Errorf("ToHandle(FromHandle(%x)): %x, %v", h, got, ok)
		}
	}
	wantClass(t, word.FromNil(), api.ClassNil)
}

// 1.4: two strings never have one word.
func TestTextsApart(t *testing.T) {
	of := map[uint64]string{}
	for _, s := range shortTexts() {
		w, ok := word.FromText(s)
		if other, there := of[w]; !ok || there {
			t.Errorf("%q and %q: %016x, %v", s, other, w, ok)
		}
		of[w] = s
	}
}

// 1.2 to 1.4 and W1: every head of 16 bits with many loads has the chapter's class, and just the To of that class takes it.
func TestEveryHead(t *testing.T) {
	loads := edgeLoads()
	for head := range uint64(1 << 16) {
		for _, load := range loads {
			if bad := faultOf(head<<48 | load); bad != "" {
				t.Fatal(bad)
			}
		}
	}
}

// 1.2 to 1.4 and W1: the same for patterns that are spread over all, and for tagged words with their loads.
func TestManyPatterns(t *testing.T) {
	x := uint64(0x9e3779b97f4a7c15)
	for range 200000 {
		x ^= x << 13
		x ^= x >> 7
		x ^= x << 17
		load := x >> 16
		for _, w := range []uint64{x, tagged(x&7, load), tagged(2, load%7<<40|load&0xffffffffff)} {
			if bad := faultOf(w); bad != "" {
				t.Fatal(bad)
			}
		}
	}
}

func FuzzWord(f *testing.F) {
	for _, w := range []uint64{0, api.Canon, 0xfff8000000000002, 0xfff9800000000000, 0xfffa010000006261, 0xfffbffffffffffff, 0xfffc000000000000} {
		f.Add(w)
	}
	f.Fuzz(func(t *testing.T, w uint64) {
		if bad := faultOf(w); bad != "" {
			t.Error(bad)
		}
	})
}

func wantClass(t *testing.T, w uint64, want int) {
	t.Helper()
	if got := word.Class(w); got != want {
		t.Errorf("Class(%016x): %d, want %d", w, got, want)
	}
}

func tagged(tag, load uint64) uint64 { return 0xfff8000000000000 + tag*0x1000000000000 + load }

func edgeLoads() []uint64 {
	loads := []uint64{
		0, 1, 2, 3, 7, 0xff, 0x100, 0x6261, 0x7fffffffffff, 0x800000000000, 0x800000000001, 0x8fffffffffff, 0xffffffffffff, 0xfffffffffffe,
	}
	for n := range uint64(8) {
		loads = append(loads, n<<40, n<<40|1, n<<40|0x6261, n<<40|0xff<<32, n<<40|0xffffffffff)
	}
	return loads
}

func shortTexts() []string {
	texts := []string{""}
	for from, n := 0, 1; n <= 5; n++ {
		to := len(texts)
		for _, s := range texts[from:to] {
			for _, b := range []string{"\x00", "\x01", "a", "\x80", "\xff"} {
				texts = append(texts, s+b)
			}
		}
		from = to
	}
	return texts
}

// classByText works a class out from the pattern's hexadecimal digits, another way than the package does.
func classByText(w uint64) int {
	digits := fmt.Sprintf("%016x", w)
	load := digits[4:]
	switch {
	case !math.IsNaN(math.Float64frombits(w)), digits == "7ff8000000000000":
		return api.ClassDouble
	case digits == "fff8000000000000":
		return api.ClassNil
	case digits == "fff8000000000001", digits == "fff8000000000002":
		return api.ClassBool
	case strings.HasPrefix(digits, "fff9"):
		return api.ClassInt
	case strings.HasPrefix(digits, "fffb"):
		return api.ClassHandle
	case strings.HasPrefix(digits, "fffa") && load[0] == '0' && load[1] >= '0' && load[1] <= '5':
		behind := 10 - 2*int(load[1]-'0')
		if load[2:2+behind] == strings.Repeat("0", behind) {
			return api.ClassText
		}
	}
	return api.ClassStray
}

// faultOf tells what chapter 1 does not allow in the answers about w; nothing, if all is right.
func faultOf(w uint64) string {
	class := word.Class(w)
	if want := classByText(w); class != want {
		return fmt.Sprintf("Class(%016x): %d, want %d", w, class, want)
	}
	i, isInt := word.ToInt(w)
	b, isBool := word.ToBool(w)
	s, isText := word.ToText(w)
	h, isHandle := word.ToHandle(w)
	if isInt != (class == api.ClassInt) || isBool != (class == api.ClassBool) || isText != (class == api.ClassText) || isHandle != (class == api.ClassHandle) {
		return fmt.Sprintf("To of %016x: int %v, bool %v, text %v, handle %v", w, isInt, isBool, isText, isHandle)
	}
	if !isInt && i != 0 || !isBool && b || !isText && s != "" || !isHandle && h != 0 {
		return fmt.Sprintf("beside a false, of %016x: %d, %v, %q, %x", w, i, b, s, h)
	}
	if back, ok := again(w, class); !ok || back != w {
		return fmt.Sprintf("From of To of %016x: %016x, %v", w, back, ok)
	}
	if (word.FromFloat(w) == w) != (class == api.ClassDouble) || word.Class(word.FromFloat(w)) != api.ClassDouble {
		return fmt.Sprintf("FromFloat(%016x): %016x", w, word.FromFloat(w))
	}
	return ""
}

// again leads from a word of a class to what it holds, and back.
func again(w uint64, class int) (uint64, bool) {
	switch class {
	case api.ClassInt:
		i, _ := word.ToInt(w)
		return word.FromInt(i)
	case api.ClassNil:
		return word.FromNil(), true
	case api.ClassBool:
		b, _ := word.ToBool(w)
		return word.FromBool(b), true
	case api.ClassText:
		s, _ := word.ToText(w)
		return word.FromText(s)
	case api.ClassHandle:
		h, _ := word.ToHandle(w)
		return word.FromHandle(h)
	}
	return w, true
}
