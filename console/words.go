package console

import (
	"strings"

	"casket/api"
	"casket/numtext"
	"casket/quote"
)

const blank = " "

// The letters of a command's form.
const (
	aWord     = "w" // any
	aNumber   = "n"
	aValue    = "v"
	anyValues = "*" // none or more, at the form's end
)

// wordsOf are a line's words.
func wordsOf(line string) []string {
	var list []string
	rest := strings.TrimLeft(line, blank)
	for rest != "" {
		size := wordSize(rest)
		list = append(list, rest[:size])
		rest = strings.TrimLeft(rest[size:], blank)
	}
	return list
}

// wordSize is that of the word in front. What stands directly behind a string belongs to its word, and a string that does not end has no end but the line's: such words are no values.
func wordSize(rest string) int {
	size := 0
	if rest[0] == '"' {
		_, spelt, ends := quote.Read(rest)
		if !ends {
			return len(rest)
		}
		size = spelt
	}
	gap := strings.Index(rest[size:], blank)
	if gap < 0 {
		return len(rest)
	}
	return size + gap
}

// given is what the words behind a command's say.
type given struct {
	name    string
	numbers []int64
	values  []api.Raw
}

// read takes words by a form, a letter each; false: their number or what they are is not the form's.
func read(form string, words []string) (given, bool) {
	if fixed, open := strings.CutSuffix(form, anyValues); open {
		form = fixed + strings.Repeat(aValue, max(0, len(words)-len(fixed)))
	}
	if len(words) != len(form) {
		return given{}, false
	}
	var g given
	for i, word := range words {
		if !g.take(form[i:i+1], word) {
			return given{}, false
		}
	}
	return g, true
}

func (g *given) take(letter, word string) bool {
	switch letter {
	case aWord:
		g.name = word
		return true
	case aNumber:
		n, ok := number(word)
		g.numbers = append(g.numbers, n)
		return ok
	}
	v, ok := valueIn(word)
	g.values = append(g.values, v)
	return ok
}

// number reads one without a sign: -0 is none of chapter 4's, so that a sign is told by what is below 0.
func number(word string) (int64, bool) {
	n, e := numtext.ParseInt(word)
	return n, e == api.OK && n >= 0
}
