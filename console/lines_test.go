package console_test

import (
	"fmt"
	"strings"
	"testing"

	"casket/api"
)

// 18.1: lines and words.

func TestNoText(t *testing.T) { wantTold(t, "", "") }

// Just MaxText bytes are a script like others; one more is none at all.
func TestBytes(t *testing.T) {
	for _, filler := range []string{" ", "#"} {
		first, last := "tokens\n#", "\ntokens"
		text := first + strings.Repeat(filler, api.MaxText-len(first)-len(last)) + last
		wantTold(t, text, "tokens 1\ntokens 1\n")
		wantTold(t, text+"\n", "too long\n")
		wantTold(t, text+" ", "too long\n")
		wantTold(t, text[1:]+"\n", "line 1: error 110\ntokens 1\n")
	}
	long := strings.Repeat("x", api.MaxText-len("| \ntokens\n"))
	wantTold(t, "# "+long+"\ntokens\n", "tokens 1\n")
	wantTold(t, "| "+long+"\ntokens\n", "line 2: error 2 at 0\n")
	wantTold(t, "x "+long+"\ntokens\n", "line 1: error 110\ntokens 1\n")
}

// Just MaxLines lines, the last one with a byte 10 behind or without; and one more.
func TestLines(t *testing.T) {
	last := fmt.Sprintf("line %d: error 110\n", api.MaxLines)
	for _, line := range []string{"\n", "|\n", " \n", "# x\n"} {
		most := strings.Repeat(line, api.MaxLines-1)
		wantTold(t, most, "")
		wantTold(t, most+"\n", "")
		wantTold(t, most+"frob", last)
		wantTold(t, most+"frob\n", last)
		wantTold(t, most+"frob\n\n", "too many lines\n")
		wantTold(t, most+"frob\n ", "too many lines\n")
		wantTold(t, most+"\n#", "too many lines\n")
		wantTold(t, most+"\n|", "too many lines\n")
		wantTold(t, most+"\n\n", "too many lines\n")
	}
	wantTold(t, strings.Repeat("tokens\n", api.MaxLines), strings.Repeat("tokens 1\n", api.MaxLines))
	wantTold(t, strings.Repeat("tokens\n", api.MaxLines+1), "too many lines\n")
}

// What is too long and has too many lines is too long.
func TestBytesAheadOfLines(t *testing.T) {
	wantTold(t, strings.Repeat("\n", api.MaxText+1), "too long\n")
	wantTold(t, strings.Repeat("\n", api.MaxText), "too many lines\n")
	wantTold(t, strings.Repeat("tokens\n", api.MaxText), "too long\n")
	wantTold(t, strings.Repeat(" ", api.MaxText)+strings.Repeat("\n", api.MaxLines+1), "too long\n")
}

// The last line needs no byte 10; with one behind it there is no other line.
func TestLastLine(t *testing.T) {
	wantTold(t, "tokens", "tokens 1\n")
	wantTold(t, "tokens\n", "tokens 1\n")
	wantTold(t, "tokens\nfrob", "tokens 1\nline 2: error 110\n")
	wantTold(t, "|a\ntokens", "tokens 2\n")
	wantTold(t, "tokens\n|a", "tokens 1\n")
	wantTold(t, "|", "")
	wantTold(t, " ", "")
	wantTold(t, "\n", "")
	wantTold(t, "x", "line 1: error 110\n")
}

// Numbers of lines are counted over all of them.
func TestLineNumbers(t *testing.T) {
	talk(t, "", "", "frob", "!110", "|fn", "", "frob", "!110", "  ", "", "# frob", "", "|", "", "tokens", "tokens 2", "reach", "!102", "tree 9", "!70 at 4", "clear", "ok", "frob", "!110", "tree 9", "ok", "reach", "reach 0", "reach 1", "!110")
	var turns []string
	for range 1200 {
		turns = append(turns, "frob", "!110", "", "")
	}
	talk(t, turns...)
}

// A line of a source: what stands behind the first byte, as it is, and a byte 10.
func TestSourceLines(t *testing.T) {
	talk(t, "|", "", "|$", "", "tokens", "!60 at 1")
	talk(t, "|  a ", "", "| $", "", "tokens", "!60 at 6")
	talk(t, "||", "", "tokens", "tokens 2", "print", "!70 at 0")
	talk(t, "|\t a\t", "", "tokens", "tokens 2")
	talk(t, "|a\r", "", "tokens", "!60 at 1")
	talk(t, "|a", "", "|b", "", "tokens", "tokens 3")
	talk(t, `|"a`, "", `|b"`, "", "tokens", "!61 at 0")
	talk(t, `|"a  b"  "`, "", "tokens", "!61 at 8")
	talk(t, "|# a remark", "", "|b # another", "", "|c", "", "tokens", "tokens 3")
	talk(t, "|tokens", "", "|frob |frob", "", "tokens", "tokens 5")
	talk(t, "|\x00", "", "tokens", "!60 at 0")
	talk(t, "|fn f() {", "", "frob", "!110", "|}", "", "print", "print fn f ( ) { }")
}

// A `|` makes no line of a source where it is not the first byte.
func TestNoSourceLines(t *testing.T) {
	talk(t, " |a", "!110", "  |", "!110", "tokens |a", "!110", "\t|a", "!110", "#|a", "", "tokens", "tokens 1")
}

// Blanks alone, and ahead, between and behind; no other byte is one.
func TestBlanks(t *testing.T) {
	talk(t, "", "", " ", "", strings.Repeat(" ", 999), "", "  tokens", "tokens 1", "tokens  ", "tokens 1", "   tokens   ", "tokens 1")
	both(t, "|let g; fn f(a, b) { return a; }", "", "new    9", "ok", "   new 9", "!110", "  run   f  9    1 2   ", "value 1 ticks 2",
		" set  g   \"a  b\"  ", "ok", "global  g", `value "a  b"`, " peek  0  0 ", "!101")
	for _, b := range []string{"\t", "\r", "\x00", "\v", "\f", "\u00a0", "\x85"} {
		talk(t, b, "!110", "tokens"+b, "!110", b+"tokens", "!110", " "+b+" ", "!110", b+"# x", "!110", "tokens"+b+"1", "!110", "vm"+b+"9", "!110", "vm 9"+b, "!110", "# "+b, "")
	}
}

// A line says nothing whose first word begins with `#`, whatever stands behind.
func TestRemarks(t *testing.T) {
	talk(t, "#", "", "# frob", "", "#frob", "", "  # frob", "", " #", "", "##", "", `#"`, "", `# "a`, "", "#|a", "", "#tokens", "")
	talk(t, "tokens #", "!110", "tokens # x", "!110", "tokens#", "!110", "frob #", "!110", `"#`, "!110", `"#"`, "!110", "|#$", "", "tokens", "tokens 1")
	both(t, "|let g;", "", "new 9", "ok", "global #", "!63", "set g #", "!110", `set g "#"`, "ok", "global g", `value "#"`, "global g # x", "!110")
}

// A word that begins with `"` goes to the end of its string; within another one a `"` is a byte like others.
func TestQuotes(t *testing.T) {
	both(t, "|let g; fn f(a, b) { return a + b; }", "", "new 99", "ok",
		`set g "a b"`, "ok", "global g", `value "a b"`,
		`set g "  "`, "ok", "global g", `value "  "`,
		`set g ""`, "ok", "global g", `value ""`,
		`set g " \" "`, "ok", "global g", `value " \" "`,
		`set g " \\"`, "ok", "global g", `value " \\"`,
		`run f 9 "a b" " c"`, `value "a b c" ticks 2`,
		`run f 9   "a  b"   "c"  `, `value "a  bc" ticks 2`,
		`run f 9 "|" "#"`, `value "|#" ticks 2`,
		`run f 9 "nil" "@0"`, `value "nil@0" ticks 2`,
		`run f 9 "a b"`, "!81",
		`run f 9 a"b c"`, "!110",
		`run f 9 a"b" "c"`, "!110",
		`run f 9 1" 2`, "!110",
		`run f" 9 "a" "b"`, "!100",
		`run f"g 9 "a" "b"`, "!100",
		`run f" "9 "a" "b"`, "!110",
		`global g"`, "!63",
		`global g" "`, "!110",
		`tokens"`, "!110",
		`"tokens"`, "!110",
		`"tokens`, "!110",
		`"`, "!110",
		`""`, "!110",
	)
}

// A string is a word wherever it stands: as a name it names nothing.
func TestQuotedNames(t *testing.T) {
	both(t, "|let g; fn f() { }", "", "new 9", "ok",
		`run "f" 9`, "!100", `start "f" 9`, "!100", `run "f g" 9`, "!100", `run "" 9`, "!100",
		`global "g"`, "!63", `global "g h"`, "!63", `set "g" 1`, "!63", `set "g h" 1`, "!63",
		`run "f 9`, "!110", `set "g 1`, "!110", `run "f" "9"`, "!110", `peek "0" 0`, "!110", `step "1"`, "!110", `new "9"`, "!110")
}

// So does one with something directly behind, up to the next blank, and one that does not end, up to the line's end: they are words, and no values.
func TestSpoiltNames(t *testing.T) {
	both(t, "|let g; fn f() { }", "", "new 9", "ok",
		`run "f"x 9`, "!100", `run "f""g" 9`, "!100", `run "f"x`, "!110", `run "f"9 9`, "!100", `global "g"x`, "!63", `global "g""h`, "!63", `set "g"" 1`, "!63",
		`global "g`, "!63", `global "g h`, "!63", `global "g\q" h`, "!63", `run "f" 9 "`, "!110", `set "g\q" 1`, "!110")
}
