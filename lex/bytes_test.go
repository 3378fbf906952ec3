package lex_test

import (
	"fmt"
	"strings"
	"testing"

	"casket/api"
)

// Promise 11.1: which byte begins what, blanks and remarks, and how long a source may be.

// toldByte is what is told of one byte alone, put together from the chapter's lists.
func toldByte(b byte, at int) string {
	s := string([]byte{b})
	end := fmt.Sprintf("End %d", at+1)
	switch {
	case b == 32 || b == 9 || b == 10 || b == '#':
		return end
	case 'a' <= b && b <= 'z' || b == '_':
		return fmt.Sprintf("Name %s %d, %s", s, at, end)
	case '0' <= b && b <= '9':
		return fmt.Sprintf("Int %s %d, %s", s, at, end)
	case b == '"':
		return fmt.Sprintf("ErrString %d", at)
	case strings.Contains("+-*/%&|^~<>=(){}[],;:", s):
		return fmt.Sprintf("Mark %s %d, %s", s, at, end)
	}
	return fmt.Sprintf("ErrByte %d", at)
}

func TestEveryByteAlone(t *testing.T) {
	for b := range 256 {
		s := string([]byte{byte(b)})
		wantTold(t, s, toldByte(byte(b), 0))
		for _, ahead := range []string{" ", "\t", "\n", "#\n", "  \n# x\n\t"} {
			wantTold(t, ahead+s, toldByte(byte(b), len(ahead)))
		}
	}
}

func TestEveryByteWithin(t *testing.T) {
	for b := range 256 {
		s := string([]byte{byte(b)})
		for _, around := range [][2]string{
			{"a", "b"}, {"a1_", "_1a"}, {"in", "f"}, {"le", "t"}, {"1", "2"}, {"0", "1p+0"}, {"0", "0"}, {"0x1", "p+0"}, {"0x1.", "8p+1"}, {"0x1p", "0"}, {"0x1p", "+0"}, {"0x1p+", "1"}, {"0x1p+1", "0"},
			{`"a`, `b"`}, {`"\`, `"`}, {`"\x`, `0"`}, {`"\x0`, `"`}, {`"\x00`, `"`}, {`"`, `41"`}, {`""`, `""`}, {"#a", "b"}, {"#", ""}, {"#", "\n!"},
			{"=", "="}, {"<", "<"}, {".", "."}, {"..", "."}, {"!", "="}, {"/", "/"}, {"a ", " b"}, {"a\n", "\nb"}, {"", "="}, {"", "."},
		} {
			wantModel(t, around[0]+s+around[1])
		}
	}
}

// Of every two bytes in a row, the model says the same.
func TestEveryTwoBytes(t *testing.T) {
	for a := range 256 {
		for b := range 256 {
			wantModel(t, string([]byte{byte(a), byte(b)}))
		}
	}
}

func TestEveryByteOfRemark(t *testing.T) {
	for b := range 256 {
		s := string([]byte{byte(b)})
		if b == 10 {
			continue
		}
		wantTold(t, "#"+s, "End 2")
		wantTold(t, "x#"+s+s+"\ny", "Name x 0, Name y 5, End 6")
	}
}

func TestGaps(t *testing.T) {
	wantTable(t, [][2]string{
		{"", "End 0"}, {" ", "End 1"}, {"\n", "End 1"}, {"\t", "End 1"}, {" \t\n \n\n", "End 6"},
		{"#", "End 1"}, {"##", "End 2"}, {"#\n", "End 2"}, {"#a\n#b", "End 5"}, {"# let x = \"", "End 11"}, {"#\n\n#\n", "End 5"},
		{"x", "Name x 0, End 1"}, {" x", "Name x 1, End 2"}, {"x ", "Name x 0, End 2"}, {"\nx\n", "Name x 1, End 3"}, {"\tx\t", "Name x 1, End 3"},
		{"x#", "Name x 0, End 2"}, {"x#y", "Name x 0, End 3"}, {"x#y\n", "Name x 0, End 4"}, {"#y\nx", "Name x 3, End 4"}, {"x#y\nz", "Name x 0, Name z 4, End 5"}, {"x # y # z\n\tw", "Name x 0, Name w 11, End 12"},
		{"1#2", "Int 1 0, End 3"}, {"0x1p+1#2", "Float 4000000000000000 0, End 8"}, {`"#"#"`, `Text "#" 0, End 5`}, {"=#=\n=", "Mark = 0, Mark = 4, End 5"},
		{"x\ny\tz w", "Name x 0, Name y 2, Name z 4, Name w 6, End 7"}, {"( )", "Mark ( 0, Mark ) 2, End 3"},
		{"\r", "ErrByte 0"}, {"x\r\n", "Name x 0, ErrByte 1"}, {"\v", "ErrByte 0"}, {"\f", "ErrByte 0"}, {"\x00", "ErrByte 0"}, {"\u00a0", "ErrByte 0"}, {"\ufeffx", "ErrByte 0"},
		{"#\r\nx", "Name x 3, End 4"}, {"#ä\xff\x00", "End 5"}, {"#x\n!", "ErrByte 3"},
	})
}

func TestNoByteOfToken(t *testing.T) {
	wantTable(t, [][2]string{
		{"!", "ErrByte 0"}, {"!!", "ErrByte 0"}, {"! =", "ErrByte 0"}, {"!==", "Mark != 0, Mark = 2, End 3"}, {".", "ErrByte 0"}, {"...", "Mark .. 0, ErrByte 2"}, {"....", "Mark .. 0, Mark .. 2, End 4"}, {". .", "ErrByte 0"},
		{"A", "ErrByte 0"}, {"aB", "Name a 0, ErrByte 1"}, {"a.b", "Name a 0, ErrByte 1"}, {"$", "ErrByte 0"}, {"@", "ErrByte 0"}, {"?", "ErrByte 0"}, {"'a'", "ErrByte 0"}, {"`", "ErrByte 0"}, {`\n`, "ErrByte 0"},
		{"ä", "ErrByte 0"}, {"aä", "Name a 0, ErrByte 1"}, {"a $ !", "Name a 0, ErrByte 2"}, {"\xff", "ErrByte 0"}, {"\x7f", "ErrByte 0"}, {"\x80", "ErrByte 0"},
	})
}

func TestLongestSource(t *testing.T) {
	most := api.MaxSource
	if most != 65536 {
		t.Fatalf("MaxSource is %d", most)
	}
	wantTold(t, strings.Repeat(" ", most), "End 65536")
	wantTold(t, "#"+strings.Repeat("\xff", most-1), "End 65536")
	wantTold(t, strings.Repeat("\n", most-1)+"x", "Name x 65535, End 65536")
	wantTold(t, strings.Repeat("\n", most-1)+"!", "ErrByte 65535")
	wantTold(t, strings.Repeat("a", most), "ErrName 0")
	wantTold(t, strings.Repeat("1", most), "ErrNumber 0")
	wantTold(t, "0x"+strings.Repeat(".", most-2), "ErrNumber 0")
	wantTold(t, "0x1p+"+strings.Repeat("0", most-5), "ErrNumber 0")
	wantTold(t, `"`+strings.Repeat("a", most-1), "ErrString 0")
	wantTold(t, `"`+strings.Repeat("a", most-2)+`"`, `Text "`+strings.Repeat("a", most-2)+`" 0, End 65536`)
	wantTold(t, `""`+strings.Repeat(" ", most-3)+`"`, `Text "" 0, ErrString 65535`)
	for _, s := range []string{"x ", "1;", "=", "..", `""`, `"\x00"` + "  ", "#\n", "\n"} {
		wantModel(t, strings.Repeat(s, most/len(s)))
	}
}

// What is too long is told ahead of all that stands in it, and has no token.
func TestTooLongSource(t *testing.T) {
	for _, n := range []int{api.MaxSource + 1, api.MaxSource + 2, 2 * api.MaxSource, 1 << 20} {
		for _, s := range []string{" ", "#", "x", "!", `"`, "1", "\x00", "=", "x "} {
			wantTold(t, strings.Repeat(s, n)[:n], "ErrLong 0")
		}
		wantTold(t, "let x"+strings.Repeat(" ", n-5), "ErrLong 0")
		wantTold(t, strings.Repeat("\n", n-1)+"!", "ErrLong 0")
	}
}
