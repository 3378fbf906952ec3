package console_test

import (
	"math/rand"
	"regexp"
	"slices"
	"strings"
	"testing"

	"casket/api"
)

// drawn is a script with machines of these kinds, and what it must tell.
func drawn(seed int64, codes map[api.Errno]int, kinds ...string) (text, want string) {
	d := &teller{Rand: rand.New(rand.NewSource(seed)), kinds: kinds, codes: codes}
	d.addSource()
	d.open()
	for range 20 + d.Intn(100) {
		d.line()
	}
	return script(d.lines...), d.want.String()
}

// wantMet asks for errors that must not be left out by chance.
func wantMet(t *testing.T, codes map[api.Errno]int, list ...api.Errno) {
	t.Helper()
	t.Log(codes)
	for _, code := range list {
		if codes[code] < 20 {
			t.Errorf("drawn scripts hardly ever meet %d", code)
		}
	}
}

// 18.3 and 18.4: what is told is what the chapters' calls answer.
func TestDrawn(t *testing.T) {
	codes := map[api.Errno]int{}
	for seed := range int64(800) {
		text, want := drawn(seed, codes, "tree", "vm")
		wantTold(t, text, want)
		if t.Failed() {
			t.Fatal("seed", seed)
		}
	}
	wantMet(t, codes, api.OK, api.ErrArg, api.ErrRange, api.ErrIndex, api.ErrMemory, api.ErrType, api.ErrByte, api.ErrName, api.ErrSyntax, api.ErrTwice, api.ErrCount, api.ErrFuel, api.ErrFunc, api.ErrRef, api.ErrState, api.ErrSite, api.ErrLine)
}

// 18.5: without sites and force a script tells of a register machine, word for word, what it tells of a tree machine.
func TestAlike(t *testing.T) {
	codes := map[api.Errno]int{}
	for seed := range int64(800) {
		text, want := drawn(-1-seed, codes, "tree")
		wantTold(t, text, want)
		wantTold(t, strings.ReplaceAll("\n"+text, "\ntree ", "\nvm ")[1:], want)
		if t.Failed() {
			t.Fatal("seed", seed)
		}
	}
	wantMet(t, codes, api.OK, api.ErrMemory, api.ErrType, api.ErrFuel, api.ErrFunc, api.ErrRef, api.ErrState, api.ErrLine)
}

// Any bytes at all: a call ends, tells the same of the same text whatever was asked in between, and what it tells is lines.
func TestAnyBytes(t *testing.T) {
	d := rand.New(rand.NewSource(1))
	for seed := range int64(1500) {
		text := ""
		if seed%3 == 0 {
			bytes := make([]byte, d.Intn(300))
			d.Read(bytes)
			text = string(bytes)
		} else {
			text, _ = drawn(seed, map[api.Errno]int{}, "tree", "vm")
			text = spoilt(d, text)
		}
		first := run(text)
		run(script("|let g;", "vm 9", "set g 5", "start f 9"))
		if second := run(text); first != second {
			t.Fatalf("%q\ntells:\n%q\nand then:\n%q", text, first, second)
		}
		if first != "" && !strings.HasSuffix(first, "\n") || strings.Contains(first, "\n\n") {
			t.Fatalf("%q\ntells:\n%q", text, first)
		}
	}
}

// spoilt is a text with some bytes turned, put in or left out. Digits are let be: a run with much fuel takes long.
func spoilt(d *rand.Rand, text string) string {
	bytes := []byte(text)
	for range 1 + d.Intn(20) {
		i := d.Intn(len(bytes))
		if bytes[i] >= '0' && bytes[i] <= '9' {
			continue
		}
		switch b := " \n\"\\|#@-x;\t\x00\xff(}"[d.Intn(15)]; d.Intn(3) {
		case 0:
			bytes[i] = b
		case 1:
			bytes = append(bytes[:i], append([]byte{b}, bytes[i:]...)...)
		default:
			bytes = append(bytes[:i], bytes[i+1:]...)
		}
	}
	return string(bytes)
}

// A word is a value just by its form: all short words and lines of the bytes that mean something, against the forms written down in another way.
func TestAllShortWords(t *testing.T) {
	right := regexp.MustCompile(`^ *(nil|true|false|-?[1-9][0-9]*|0|(@)(?:0|[1-9][0-9]*)|"(?:[ !#-\[\]-~]|\\[\\"n]|\\x[0-9a-f][0-9a-f])*") *$`)
	lines := []string{""}
	for at := 0; len(lines[at]) < 5; at++ {
		for _, letter := range strings.Split(`01n -"\@x`, "") {
			lines = append(lines, lines[at]+letter)
		}
	}
	for chunk := range slices.Chunk(lines, api.MaxLines-2) {
		turns := []string{"|let g;", "", "new 9", "ok"}
		for _, line := range chunk {
			answer := "!110"
			if found := right.FindStringSubmatch(line); found != nil {
				answer = map[string]string{"": "ok", "@": "!101"}[found[2]]
			}
			turns = append(turns, "set g "+line, answer)
		}
		both(t, turns...)
	}
}
