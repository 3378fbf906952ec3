package console_test

import (
	"fmt"
	"strings"
	"testing"

	"casket/console"
)

// script is lines, each with a byte 10 behind.
func script(lines ...string) string { return strings.Join(lines, "\n") + "\n" }

func wantTold(t testing.TB, text, want string) {
	t.Helper()
	got := console.Run(text)
	if got == want {
		return
	}
	is, must := strings.Split(got, "\n"), strings.Split(want, "\n")
	for i := range min(len(is), len(must)) {
		if is[i] != must[i] {
			t.Errorf("%s\ntells as its line %d: %s\nwant: %s", short(text), i+1, short(is[i]), short(must[i]))
			return
		}
	}
	t.Errorf("%s\ntells:\n%s\nwant:\n%s", short(text), short(got), short(want))
}

// short is a text that may be long.
func short(text string) string {
	if len(text) > 3000 {
		return text[:3000] + ".."
	}
	return text
}

// told is what a script must tell whose lines and answers take turns: an answer of no text is nothing, `!E` an error of its line.
func told(turns []string) (text, want string) {
	var lines, answers strings.Builder
	for i := 0; i+1 < len(turns); i += 2 {
		lines.WriteString(turns[i] + "\n")
		answer := turns[i+1]
		if code, is := strings.CutPrefix(answer, "!"); is {
			answer = fmt.Sprintf("line %d: error %s", i/2+1, code)
		}
		if answer != "" {
			answers.WriteString(answer + "\n")
		}
	}
	return lines.String(), answers.String()
}

// talk holds a script's answers against those that it must have.
func talk(t testing.TB, turns ...string) {
	t.Helper()
	text, want := told(turns)
	wantTold(t, text, want)
}

// both does so with a machine of each kind in the place of each line `new UNITS`.
func both(t testing.TB, turns ...string) {
	t.Helper()
	text, want := told(turns)
	for _, kind := range kinds {
		wantTold(t, of(kind, text), want)
	}
}

var kinds = []string{"tree", "vm"}

// of is a script with machines of one kind.
func of(kind, text string) string {
	return strings.TrimPrefix(strings.ReplaceAll("\n"+text, "\nnew ", "\n"+kind+" "), "\n")
}

// each is lines that are all answered alike, behind some turns.
func each(first []string, answer string, lines ...string) []string {
	turns := append([]string{}, first...)
	for _, line := range lines {
		turns = append(turns, line, answer)
	}
	return turns
}

func run(text string) string { return console.Run(text) }
