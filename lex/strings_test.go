package lex_test

import (
	"fmt"
	"strconv"
	"strings"
	"testing"
)

// Promise 11.1: strings.

func TestStrings(t *testing.T) {
	wantTable(t, [][2]string{
		{`""`, `Text "" 0, End 2`}, {`"a"`, `Text "a" 0, End 3`}, {`" "`, `Text " " 0, End 3`}, {`"~"`, `Text "~" 0, End 3`}, {`"#"`, `Text "#" 0, End 3`}, {`"a b"`, `Text "a b" 0, End 5`}, {`"let"`, `Text "let" 0, End 5`}, {`"A$?"`, `Text "A$?" 0, End 5`},
		{`"\\"`, `Text "\\" 0, End 4`}, {`"\""`, `Text "\"" 0, End 4`}, {`"\n"`, `Text "\n" 0, End 4`}, {`"\x00"`, `Text "\x00" 0, End 6`}, {`"\xff"`, `Text "\xff" 0, End 6`}, {`"\x0a"`, `Text "\n" 0, End 6`}, {`"\x22"`, `Text "\"" 0, End 6`}, {`"\x5cn"`, `Text "\\n" 0, End 7`}, {`"\x419"`, `Text "A9" 0, End 7`},
		{`"\\n"`, `Text "\\n" 0, End 5`}, {`"\\\""`, `Text "\\\"" 0, End 6`}, {`"\\""`, `Text "\\" 0, ErrString 4`}, {`"\nn\n"`, `Text "\nn\n" 0, End 7`}, {`"\xc3\xa4"`, `Text "ä" 0, End 10`}, {`"nx"`, `Text "nx" 0, End 4`},
		{`"""`, `Text "" 0, ErrString 2`}, {`""""`, `Text "" 0, Text "" 2, End 4`}, {`"a""b"`, `Text "a" 0, Text "b" 3, End 6`}, {`x"a"y`, `Name x 0, Text "a" 1, Name y 4, End 5`}, {` "a" `, `Text "a" 1, End 5`}, {`"a"="b"`, `Text "a" 0, Mark = 3, Text "b" 4, End 7`},
	})
}

func TestNoStrings(t *testing.T) {
	for _, s := range []string{
		`"`, `"a`, `"\`, `"\"`, `"\\\"`, `"a\`, `"\n`, `"\x`, `"\x4`, `"\x41`, `"\x4"`, `"\x"`, `"\x 1"`, `"\x1 "`, `"\q"`, `"\N"`, `"\X41"`, `"\t"`, `"\r"`, `"\0"`, `"\'"`, `"\ "`, "\"\\\n\"", `"\u0041"`,
		`"\xAB"`, `"\xaB"`, `"\xAb"`, `"\x4G"`, `"\xg0"`, `"\x0g"`, `"\x/0"`, `"\x0:"`, "\"\\x`0\"", "\"\n\"", "\"\t\"", "\"\r\"", "\"\x00\"", "\"\x1f\"", "\"\x7f\"", "\"\x80\"", "\"\xff\"", `"ä"`, "\"a\nb\"", "\"a # b\n\"", "\"a\x00", `"a\q`,
	} {
		wantTold(t, s, "ErrString 0")
		wantTold(t, "\n"+s, "ErrString 1")
		wantTold(t, "f(x,"+s+")!", "Name f 0, Mark ( 1, Name x 2, Mark , 3, ErrString 4")
		wantTold(t, `"a"`+s, `Text "a" 0, ErrString 3`)
	}
}

// Every byte, as it is and behind a backslash.
func TestEveryByteOfString(t *testing.T) {
	for b := range 256 {
		s := string([]byte{byte(b)})
		plain := fmt.Sprintf("Text %s 0, End %d", strconv.Quote("a"+s+"b"), 5)
		if b < 32 || b > 126 || s == `\` {
			plain = "ErrString 0"
		}
		if s == `"` {
			plain = `Text "a" 0, Name b 3, ErrString 4`
		}
		wantTold(t, `"a`+s+`b"`, plain)
		escaped := "ErrString 0"
		switch s {
		case `\`, `"`:
			escaped = fmt.Sprintf("Text %s 0, End 6", strconv.Quote("a"+s+"b"))
		case "n":
			escaped = `Text "a\nb" 0, End 6`
		}
		wantTold(t, `"a\`+s+`b"`, escaped)
	}
}

// Every byte told by its digits, and every two bytes where digits may stand.
func TestEveryHexByte(t *testing.T) {
	for b := range 256 {
		digits := fmt.Sprintf("%02x", b)
		wantTold(t, `"\x`+digits+`"`, fmt.Sprintf("Text %s 0, End 6", strconv.Quote(string([]byte{byte(b)}))))
		if upper := strings.ToUpper(digits); upper != digits {
			wantTold(t, `"\x`+upper+`"`, "ErrString 0")
		}
	}
	for a := range 256 {
		for b := range 256 {
			wantModel(t, `"\x`+string([]byte{byte(a), byte(b)})+`"`)
		}
	}
}

// Strings with everything that they may have, cut off at every byte.
func TestCutStrings(t *testing.T) {
	for _, s := range []string{`"abc"`, `"\\\"\n\x41"`, `"\x00\xff\x0a"`, `"a\\"`, `"\"\""`, `"\n#\n"`} {
		for n := 1; n < len(s); n++ {
			wantTold(t, s[:n], "ErrString 0")
			wantTold(t, "x = "+s[:n], "Name x 0, Mark = 2, ErrString 4")
			wantTold(t, s[:n]+"\n\"", "ErrString 0")
		}
		wantModel(t, s)
		for n := range s {
			wantModel(t, s[n:])
			wantModel(t, s[:n]+s[n+1:])
		}
	}
	everyText("\"\\nxa1 ", 5, func(s string) { wantModel(t, `"`+s) })
}

// A string of all bytes, each spelt in one of the ways that it has.
func TestWholeString(t *testing.T) {
	var c chance = 3
	for range 300 {
		src, text := `"`, ""
		for range c.below(60) {
			b := byte(c.below(256))
			s := string([]byte{b})
			text += s
			ways := []string{fmt.Sprintf(`\x%02x`, b)}
			switch {
			case s == `\` || s == `"`:
				ways = append(ways, `\`+s)
			case b == 10:
				ways = append(ways, `\n`)
			case 32 <= b && b <= 126:
				ways = append(ways, s)
			}
			src += pick(&c, ways)
		}
		src += `"`
		wantTold(t, src, fmt.Sprintf("Text %s 0, End %d", strconv.Quote(text), len(src)))
	}
}
