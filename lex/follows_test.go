package lex_test

import (
	"fmt"
	"regexp"
	"strings"
	"testing"

	"casket/api"
	"casket/lex"
	"casket/numtext"
)

// Promise 11.3 (W3): places rise, and between tokens stand only blanks and remarks; long sources by chance.

var gapsForm = regexp.MustCompile(`^(?:[ \t\n]|#[^\n]*(?:\n|$))*$`)

// written is what a token was written as, if it stands at the beginning of rest; none of TokEnd.
func written(k api.Token, rest string) string {
	switch k.Kind {
	case api.TokName, api.TokWord, api.TokMark:
		return k.Text
	case api.TokInt:
		return fmt.Sprint(k.Int)
	case api.TokFloat:
		if s := doubleForm.FindString(rest); s != "" {
			return s
		}
		return numtext.Float(k.Bits) // inf or nan
	case api.TokText:
		return stringForm.FindString(rest)
	}
	return ""
}

// wantFollows asks nothing of the model but how numbers and strings are written.
func wantFollows(t *testing.T, src string) {
	t.Helper()
	at, last := 0, -1
	for k, f := range lex.Tokens(src) {
		if f != (api.Fault{}) {
			k.At = f.At
		}
		if k.At <= last || k.At < at || k.At > len(src) {
			t.Fatalf("%.80q: %v, %v stands at %d, behind %d, where %d is over", src, k, f, k.At, last, at)
		}
		if gap := src[at:k.At]; !gapsForm.MatchString(gap) {
			t.Fatalf("%.80q: %q stands ahead of %d", src, gap, k.At)
		}
		if f != (api.Fault{}) {
			return
		}
		spelt := written(k, src[k.At:])
		if !strings.HasPrefix(src[k.At:], spelt) || (spelt == "") != (k.Kind == api.TokEnd) {
			t.Fatalf("%.80q: %v is not written at %d", src, k, k.At)
		}
		at, last = k.At+len(spelt), k.At
	}
	if at != len(src) {
		t.Fatalf("%.80q: no end at %d", src, at)
	}
}

// rightPieces are each one token.
var rightPieces = []string{
	"a", "_", "x1", "infx", "nan_", "fnx", "i", "le", strings.Repeat("z", 31), "inf", "nan", "0", "1", "42", "9223372036854775807", "0x1p+0", "0x1.8p-3", "0x0p+0", "0xffp+12", "0x1p-1074",
	`""`, `"a"`, `"\\\"\n\x41\xff"`, `" # "`, `"let x"`,
}

var wrongPieces = []string{
	"!", ".", "A", "$", "\x00", "\xff", "\r", `"`, `"a`, `"\q"`, "\"\n\"", "007", "9223372036854775808", "0x", "0x1", "0x1p", "0x1p+", "0x1p+1024", "0x1..2", strings.Repeat("a", 32), "ä",
}

var gapPieces = []string{" ", "\t", "\n", "  \n", "#\n", "# a \"b\" \\ \xff !\n", "\n#x\n#y\n\t"}

func allRight() []string { return append(append(allMarks(), rightPieces...), reserved...) }

// Right tokens, with gaps between: just these are told, at these places.
func TestRightPieces(t *testing.T) {
	var c chance = 5
	right := allRight()
	for range 2000 {
		src, count := "", 0
		for range c.below(40) {
			src += pick(&c, gapPieces) + pick(&c, right)
			count++
		}
		if c.below(2) == 0 {
			src += pick(&c, gapPieces)
		}
		list, f := lex.All(src)
		if len(list) != count+1 || f != (api.Fault{}) {
			t.Fatalf("All(%q): %d tokens of %d, %v", src, len(list), count, f)
		}
		wantModel(t, src)
		wantFollows(t, src)
	}
}

// Whatever stands beside what, with a gap or none.
func TestAnyPieces(t *testing.T) {
	var c chance = 7
	right := allRight()
	for range 20000 {
		src := ""
		for range c.below(15) {
			switch c.below(40) {
			case 0:
				src += pick(&c, wrongPieces)
			case 1:
				src += string([]byte{byte(c.below(256))})
			default:
				src += pick(&c, right)
			}
			if c.below(2) == 0 {
				src += pick(&c, gapPieces)
			}
		}
		wantModel(t, src)
		wantFollows(t, src)
	}
}

// Each wrong piece is told at its place, behind right ones, and what stands behind it is not looked at.
func TestWrongPieces(t *testing.T) {
	for _, wrong := range wrongPieces {
		_, fault := model(wrong)
		if fault.Code == api.OK || fault.At != 0 {
			t.Fatalf("the model of %q has %v", wrong, fault)
		}
		for _, ahead := range []string{"", " ", "x ", "1 # a\n", "let x = 0x1p+0;\n"} {
			list, _ := model(ahead)
			fault.At = len(ahead)
			for _, behind := range []string{"", "\n", "\n!", "\n\"", "\nx", "\n" + strings.Repeat("b", 40)} {
				wantAnswer(t, ahead+wrong+behind, list[:len(list)-1], fault)
			}
		}
	}
}

// Every byte of a right source put in the place of another one, left out, or doubled.
func TestTurnedBytes(t *testing.T) {
	const src = "let g;\nfn f(a, b) { # \"r\n\tl: while a <= 0x1.8p+1 { out \"x\\n\\x41\\\"\" + b[10]; }\n}"
	wantFollows(t, src)
	for at := range len(src) {
		wantModel(t, src[:at])
		wantModel(t, src[at:])
		wantModel(t, src[:at]+src[at+1:])
		wantModel(t, src[:at+1]+src[at:])
		for b := range 256 {
			turned := src[:at] + string([]byte{byte(b)}) + src[at+1:]
			wantModel(t, turned)
			wantFollows(t, turned)
		}
	}
}

// Bytes by chance, of few letters and of all.
func TestAnyBytes(t *testing.T) {
	var c chance = 9
	for _, letters := range []string{"a1. \n", "0xp+-.1 ", "\"\\nx41 a", "#\n ax\"", "=<>!/. ", "innaf ", "\x00\x1f\x7f\xff\" a"} {
		for range 3000 {
			src := ""
			for range c.below(12) {
				src += letters[c.below(len(letters)):][:1]
			}
			wantModel(t, src)
			wantFollows(t, src)
		}
	}
	for range 3000 {
		b := make([]byte, c.below(8))
		for i := range b {
			b[i] = byte(c.below(256))
		}
		wantModel(t, string(b))
		wantFollows(t, string(b))
	}
}
